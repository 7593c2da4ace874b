/-
  PROVED HERE: the paths of a store's files: of a content, of a file that is laid beside the store; and which content a path speaks of.
-/
import Derived.Test.YtncigfibncmioaaGreatDoorOwnPrint
import Derived.Test.YtncigfibncmioaaGreatDoorStRun
set_option maxHeartbeats 4000000
set_option maxRecDepth 100000
namespace Go.Proofs.YtncigfibncmioaaGreatDoor
open Go.RowKit
def Hm:List UInt8:=[98,108,111,98,115,47]
def Qr:List UInt8:=[98,101,115,105,100,101,47]
def bW (ds:List Nat):ByteArray:=⟨(Hm++Sha.aM ds 32).toArray⟩
def fk (i:Nat):ByteArray:=⟨(Qr++Lib.itoa (i:Int)).toArray⟩
theorem Vj (a b:List UInt8):(⟨a.toArray⟩ : ByteArray)++⟨b.toArray⟩=⟨(a++b).toArray⟩:=by
 apply ByteArray.ext;rw [ByteArray.data_append];simp
theorem MQ (ds:List Nat) (w:World) (hlen:ds.length=32) (hlt:∀ i,ds.getD i 0<256) :
  Calls Tryz.prog 107 #[.agg (ah ds)] w fun e w'=>e = .returned (.string (bW ds))/\Below w.heap.size w w':=by
 have HT:=aa (fun w=>IU ds w hlen hlt);obtain ⟨t,ht⟩ : ∃ t:ByteArray,t=⟨(Sha.aM ds 32).toArray⟩:=⟨_,rfl⟩;rw [<- ht] at HT;have Hg:¬ 9223372036854775807<6+t.size:=by
  have h1:t.size=(Sha.aM ds 32).length:=by rw [ht];simp [ByteArray.size]
  rw [h1,Sha.bq];omega
 have HE:=aa ht;clear hlt ht;go_enter Tryz.func107,Tryz.ntmps107;go_wp2_with (first|(refine wpList_load_row rfl 117 _ rfl w.heap.size rfl 117 _ _ _ (heap_alloc_new _ _) Tryz.underlying117 rfl (bL _ hlen) ?_)|(go_at_call 66;refine (HT.out _).mono ?_;rintro _ w1 ⟨rfl,hb1⟩));go_ret;refine ⟨?_,(Below.trans ((Below.refl _ _).alloc (Nat.le_refl _) _) (hb1.mono (by simp)))⟩;rw [HE.out,show (⟨#[98,108,111,98,115,47]⟩ : ByteArray)=⟨Hm.toArray⟩ from rfl,Vj];rfl
theorem A7 (i:Nat) (hi:i<=300) (w:World) (kX:Lib.TabIs Tryz.prog w "internal/strconv.uint64pow10" .u64 Lib.pow10Tab) :
  Calls Tryz.prog 139 #[.int .i64 ((i:Nat):Int)] w fun e w'=>e = .returned (.string (fk i))/\Below w.heap.size w w':=by
 have HI:=aa (Qlu ((i:Nat):Int) (by omega) (by omega) w kX);obtain ⟨t,ht⟩ : ∃ t:ByteArray,t=⟨(Lib.itoa ((i:Nat):Int)).toArray⟩:=⟨_,rfl⟩;rw [<- ht] at HI;have Hg:¬ 9223372036854775807<7+t.size:=by
  have h1:t.size=(Lib.itoa ((i:Nat):Int)).length:=by rw [ht];simp [ByteArray.size]
  have h2:=Lib.itoa_length_le ((i:Nat):Int) (by omega) (by omega);omega
 have HE:=aa ht;clear ht kX;go_enter Tryz.func139,Tryz.ntmps139;go_wp2_with (go_at_call 131;refine (HI.out).mono ?_;rintro _ w1 ⟨rfl,hb1⟩);go_ret;refine ⟨?_,hb1⟩;rw [HE.out,show (⟨#[98,101,115,105,100,101,47]⟩ : ByteArray)=⟨Qr.toArray⟩ from rfl,Vj];rfl
def wD (s p:ByteArray):Bool:=decide (p.size<=s.size) && decide (s.extract 0 p.size=p)
theorem QiJ (s p:ByteArray) (w:World) :
  Calls Tryz.prog 281 #[.string s,.string p] w fun e w'=>e = .returned (.bool (wD s p))/\w'=w:=by
 unfold wD
 by_cases h:p.size<=s.size
 ·go_enter Tryz.func281,Tryz.ntmps281;go_wp2_with fail;go_ret;refine ⟨?_,rfl⟩;have e:((s.extract 0 p.size).toList == p.toList)=decide (s.extract 0 p.size=p):=by
   rw [Bool.eq_iff_iff];simp [toList_inj]
  rw [e,decide_eq_true h,Bool.true_and];rfl
 ·have h2:decide (((p.size:Nat):Int)<=((s.size:Nat):Int))=false:=decide_eq_false (by omega);go_enter Tryz.func281,Tryz.ntmps281;go_wp2_with fail;go_ret;exact ⟨by rw [decide_eq_false h,Bool.false_and];rfl,rfl⟩
def EO (s p:ByteArray):ByteArray:=if wD s p then s.extract p.size s.size else s
theorem Qhg (s p:ByteArray) (w:World) :
  Calls Tryz.prog 253 #[.string s,.string p] w fun e w'=>e = .returned (.tuple #[.string (EO s p),.bool (wD s p)])/\w'=w:=by
 have HH:=aa (QiJ s p w);unfold EO
 cases hb:wD s p with
 | false =>
  rw [hb] at HH;clear hb;go_enter Tryz.func253,Tryz.ntmps253;go_wp2_with (go_at_call 281;refine (HH.out).mono ?_;rintro _ _ ⟨rfl,rfl⟩);refine bodyPost_ret (results_tmp2 rfl _ _ _) rfl ?_;exact ⟨rfl,rfl⟩
 | true =>
  have hle:p.size<=s.size:=by
   unfold wD at hb;simp only [Bool.and_eq_true,decide_eq_true_eq] at hb;exact hb.1
  rw [hb] at HH;clear hb;go_enter Tryz.func253,Tryz.ntmps253;go_wp2_with (go_at_call 281;refine (HH.out).mono ?_;rintro _ _ ⟨rfl,rfl⟩);refine bodyPost_ret (results_tmp2 rfl _ _ _) rfl ?_;exact ⟨rfl,rfl⟩
theorem QiK (s p:ByteArray) (w:World) :
  Calls Tryz.prog 230 #[.string s,.string p] w fun e w'=>e = .returned (.tuple #[.string (EO s p),.bool (wD s p)])/\w'=w:=by
 have HH:=aa (Qhg s p w);go_enter Tryz.func230,Tryz.ntmps230;go_wp2_with (go_at_call 253;refine (HH.out).mono ?_;rintro _ _ ⟨rfl,rfl⟩);refine bodyPost_ret (results_tmp2 rfl _ _ _) rfl ?_;exact ⟨rfl,rfl⟩
def se:ByteArray:=⟨#[98,108,111,98,115,47]⟩
def jg (p:ByteArray):Bool:=wD p se && fE (EO p se)
def ou (p:ByteArray):List Nat:=if wD p se then rd (EO p se) else Sha.zeros 32
theorem Ve (p:ByteArray):(ou p).length=32:=by
 unfold ou
 split
 ·exact jm _
 ·exact Sha.af _
theorem QfS (p:ByteArray) (w:World) :
  Calls Tryz.prog 191 #[.string p] w fun e w'=>e = .returned (.tuple #[.agg (ah (ou p)),.bool (jg p)])/\Below w.heap.size w w':=by
 have oy:=(zero_of_info Tryz.bY).1;have HC:=aa (fun w=>QiK p se w);unfold ou jg
 cases hb:wD p se with
 | false =>
  rw [hb] at HC;clear hb;go_enter Tryz.func191,Tryz.ntmps191;go_wp2_with (first|(go_at_call 230;refine (HC.out _).mono ?_;rintro _ _ ⟨rfl,rfl⟩)|(refine wpList_store_row rfl 117 _ _ rfl w.heap.size _ rfl rfl 117 _ (heap_alloc_new _ _) (bL _ (Sha.af _)) rfl (dQ _) ?_;rw [World.setRow_alloc_new]));exact bodyPost_ret (results_cell_tmp Tryz.results191 _ _ w.heap.size 117 _ (0,0) _ (.bool false) rfl rfl (heap_alloc_new _ _) Tryz.underlying117 rfl (bL _ (Sha.af _))) rfl ⟨rfl,(Below.refl _ _).alloc (Nat.le_refl _) _⟩
 | true =>
  rw [hb] at HC;clear hb;generalize EO p se=t at HC ⊢;have HR:=aa (fun w=>Kh t w);have oD:=jm t;generalize rd t=ds at HR oD ⊢;generalize fE t=db at HR ⊢;go_enter Tryz.func191,Tryz.ntmps191;go_wp2_with (first|(go_at_call 230;refine (HC.out _).mono ?_;rintro _ _ ⟨rfl,rfl⟩)|(go_at_call 109;refine (HR.out _).mono ?_;rintro _ w1 ⟨rfl,hb1⟩;have hr1:=(hb1.block w.heap.size (by simp)).trans (heap_alloc_new _ _))|(refine wpList_store_row rfl 117 _ _ rfl w.heap.size _ rfl rfl 117 _ hr1 (bL _ oD) (by rw [aY,aY,oD,Sha.af]) (dQ _) ?_));exact bodyPost_ret (results_cell_tmp Tryz.results191 _ _ w.heap.size 117 _ (0,0) _ (.bool db) rfl rfl (setRow_heap _ _ _ _ _ _ hr1) Tryz.underlying117 rfl (bL _ oD)) rfl ⟨rfl,(((Below.refl _ _).alloc (Nat.le_refl _) _).trans (hb1.mono (by simp))).setRow (Nat.le_refl _) _⟩
def bK:ByteArray:=⟨#[108,97,121,111,117,116]⟩
def bB:ByteArray:=⟨#[105,110,100,101,120]⟩
def bo:ByteArray:=⟨#[106,111,117,114,110,97,108]⟩
def cS:ByteArray:=⟨#[112,114,117,110,105,110,103]⟩
def eW (p:ByteArray):Bool:=!jg p && decide (p≠bK) && decide (p≠bB) && decide (p≠bo)
theorem VA (a b:ByteArray):decide (a≠b) = !(a.toList == b.toList):=by
 rw [Bool.eq_iff_iff];simp [toList_inj]
theorem Qtk:bK.toList = [108,97,121,111,117,116]:=by rw [ByteArray.toList_eq];rfl
theorem QuZ:bB.toList = [105,110,100,101,120]:=by rw [ByteArray.toList_eq];rfl
theorem Qq5:bo.toList = [106,111,117,114,110,97,108]:=by rw [ByteArray.toList_eq];rfl
theorem Qg (p:ByteArray) (w:World) :
  Calls Tryz.prog 141 #[.string p] w fun e w'=>e = .returned (.bool (eW p))/\Below w.heap.size w w':=by
 have oy:=(zero_of_info Tryz.bY).1;have HD:=aa (fun w=>QfS p w);have a8:=Ve p;unfold eW;generalize ou p=ds at HD a8;generalize jg p=db at HD ⊢;rw [VA,VA,VA,Qtk,QuZ,Qq5]
 cases db with
 | true =>
  go_enter Tryz.func141,Tryz.ntmps141;go_wp2_with (first|(go_at_call 191;refine (HD.out _).mono ?_;rintro _ w1 ⟨rfl,hb1⟩)|(refine wpList_store_row rfl 117 _ _ rfl w1.heap.size _ rfl rfl 117 _ (heap_alloc_new _ _) (bL _ a8) (by rw [aY,aY,a8,Sha.af]) (dQ _) ?_;rw [World.setRow_alloc_new]));go_ret;exact ⟨rfl,hb1.trans ((Below.refl _ _).alloc hb1.size _)⟩
 | false =>
  cases m1:(p.toList == [108,97,121,111,117,116]) with
  | true =>
   go_enter Tryz.func141,Tryz.ntmps141;go_wp2_with (first|(go_at_call 191;refine (HD.out _).mono ?_;rintro _ w1 ⟨rfl,hb1⟩)|(refine wpList_store_row rfl 117 _ _ rfl w1.heap.size _ rfl rfl 117 _ (heap_alloc_new _ _) (bL _ a8) (by rw [aY,aY,a8,Sha.af]) (dQ _) ?_;rw [World.setRow_alloc_new]));go_ret;exact ⟨rfl,hb1.trans ((Below.refl _ _).alloc hb1.size _)⟩
  | false =>
   cases m2:(p.toList == [105,110,100,101,120]) with
   | true =>
    go_enter Tryz.func141,Tryz.ntmps141;go_wp2_with (first|(go_at_call 191;refine (HD.out _).mono ?_;rintro _ w1 ⟨rfl,hb1⟩)|(refine wpList_store_row rfl 117 _ _ rfl w1.heap.size _ rfl rfl 117 _ (heap_alloc_new _ _) (bL _ a8) (by rw [aY,aY,a8,Sha.af]) (dQ _) ?_;rw [World.setRow_alloc_new]));go_ret;exact ⟨rfl,hb1.trans ((Below.refl _ _).alloc hb1.size _)⟩
   | false =>
    cases m3:(p.toList == [106,111,117,114,110,97,108]) with
    | true =>
     go_enter Tryz.func141,Tryz.ntmps141;go_wp2_with (first|(go_at_call 191;refine (HD.out _).mono ?_;rintro _ w1 ⟨rfl,hb1⟩)|(refine wpList_store_row rfl 117 _ _ rfl w1.heap.size _ rfl rfl 117 _ (heap_alloc_new _ _) (bL _ a8) (by rw [aY,aY,a8,Sha.af]) (dQ _) ?_;rw [World.setRow_alloc_new]));go_ret;exact ⟨rfl,hb1.trans ((Below.refl _ _).alloc hb1.size _)⟩
    | false =>
     go_enter Tryz.func141,Tryz.ntmps141;go_wp2_with (first|(go_at_call 191;refine (HD.out _).mono ?_;rintro _ w1 ⟨rfl,hb1⟩)|(refine wpList_store_row rfl 117 _ _ rfl w1.heap.size _ rfl rfl 117 _ (heap_alloc_new _ _) (bL _ a8) (by rw [aY,aY,a8,Sha.af]) (dQ _) ?_;rw [World.setRow_alloc_new]));go_ret;exact ⟨rfl,hb1.trans ((Below.refl _ _).alloc hb1.size _)⟩
def SB (w:World) (sb b:Nat):Prop:=∃ cv tv,w.heap[sb]? = some (.cells #[.pointer (some ⟨b,0,none⟩),cv,tv] 159 (0,0))
theorem SB.later {w w':World} {sb b:Nat} (h:SB w sb b) (hb:Below w.heap.size w w'):SB w' sb b:=by
 obtain ⟨cv,tv,h⟩:=h;exact ⟨cv,tv,(hb.block _ (eB h)).trans h⟩
theorem SB.go {w w':World} {sb:Nat} {s s':ai} (h:SB w sb s.b) (hi:s.In w) (hg:aC s s' w w'):SB w' sb s'.b:=by
 obtain ⟨cv,tv,h⟩:=h;rw [hg.b];exact ⟨cv,tv,hg.keeps hi h (by decide) (by decide) (by decide) (by decide)⟩
theorem ve (sb:Nat) (s:ai) (p:ByteArray) (w:World) (hb:SB w sb s.b) (h:s.In w) (hp:p.size<=9223372036854775807) :
  Calls Tryz.prog 93 #[.pointer (some ⟨sb,0,none⟩),.string p] w fun e w'=>e = .returned (.bool (cr s.ds p).isSome)/\aC s s w w':=by
 obtain ⟨cv,tv,hbl⟩:=hb;have c0:w.cell? ⟨sb,0,none⟩=some (.pointer (some ⟨s.b,0,none⟩)):=cell_of_row _ _ 0 _ _ _ hbl;have HR:=aa (Ot s p w h hp);clear hbl h;go_enter Tryz.func93,Tryz.ntmps93;go_wp2_with fail;refine HR.out.mono ?_;rintro _ w1 ⟨v,k,rfl,hv,hk,hg,hi⟩;dsimp only;have hgo:aC s s w w1:=⟨rfl,hi,hg,fun _ hk=>.inl hk⟩;have cQ:=aa hgo;clear hgo hg hi c0
 rcases hv with ⟨h0,rfl⟩|⟨h0,sv,nm,rfl, -⟩
 ·have HS:=aa (hk.1 h0);clear hk;go_wp2_with fail;go_ret;exact ⟨by rw [HS.out];rfl,cQ.out⟩
 ·have hs:(cr s.ds p).isSome=false:=by
   cases hq:(cr s.ds p).isSome with
   | false=>rfl
   | true=>exact absurd (hk.2 hq) h0
  have HS:=aa hs;clear hk hs;go_wp2_with fail;go_ret;exact ⟨by rw [HS.out];rfl,cQ.out⟩
end Go.Proofs.YtncigfibncmioaaGreatDoor
namespace Go.Proofs.YtncigfibncmioaaGreatDoor
open Go.RowKit
def gj (k:Nat):Prop:=k=3∨k=1∨k=0
structure Gl (w:World):Prop where
 tab:Lib.TabIs Tryz.prog w "internal/strconv.uint64pow10" .u64 Lib.pow10Tab
 hk:ic w
 err:w.cell? ⟨0,0,none⟩=some lI
theorem Gl.lt {w:World} (h:Gl w) {k:Nat} (hk:gj k):k<w.heap.size:=by
 rcases hk with rfl|rfl|rfl
 ·exact OY px h.tab
 ·exact h.hk.1
 ·exact World.block_lt_of_cell? _ _ h.err
theorem Gl.same {w w':World} (h:Gl w) (hsz:w.heap.size<=w'.heap.size) (hs:∀ k,gj k->w'.heap[k]? = w.heap[k]?):Gl w':=by
 refine ⟨?_,⟨Nat.lt_of_lt_of_le h.hk.1 hsz,fun i hi=>?_⟩,?_⟩
 ·have h1:=h.tab;unfold Lib.TabIs World.var? at h1 ⊢;rw [px] at h1 ⊢;simp only [Option.bind_some] at h1 ⊢;rw [hs _ (.inl rfl)];exact h1
 ·exact (World.cell?_of_block (a:=⟨1,i,none⟩) (hs _ (.inr (.inl rfl)))).trans (h.hk.2 i hi)
 ·exact (World.cell?_of_block (a:=⟨0,0,none⟩) (hs _ (.inr (.inr rfl)))).trans h.err
theorem Gl.later {w w':World} (h:Gl w) (hb:Below w.heap.size w w'):Gl w':=h.same hb.size (fun k hk=>hb.block k (h.lt hk))
def fN (s:ai):Prop:=∀ k,s.own k->¬ gj k
theorem Gl.go {w w':World} {s s':ai} (h:Gl w) (hl:fN s) (hg:aC s s' w w'):Gl w'/\fN s' :=
 ⟨h.same hg.gr.size (fun k hk=>hg.gr.block k (h.lt hk) (fun ho=>hl k ho hk)),fun k hk hG=>(hg.own k hk).elim (fun ho=>hl k ho hG) (fun rM=>by have:=h.lt hG;omega)⟩
def f0:ByteArray × ByteArray:=(⟨#[]⟩,⟨#[]⟩)
def mS (w:World) (v:Value) (fl:List (ByteArray × ByteArray)):Prop:=∃ oa c,v = .slice oa fl.length c/\∀ i,i<fl.length->∃ g cur fr,oa=some ⟨g,0,none⟩/\w.heap[g]? = some (.cells cur 222 fr)/\w.cell? ⟨g,i * 2,none⟩=some (.string (fl.getD i f0).1)/\w.cell? ⟨g,i * 2+1,none⟩=some (.string (fl.getD i f0).2)
theorem mS.same {w w':World} {v:Value} {fl:List (ByteArray × ByteArray)} (h:mS w v fl) (hs:∀ (g:Nat) (cur:Array Value) (fr:Nat × Nat),w.heap[g]? = some (.cells cur 222 fr)->w'.heap[g]? = w.heap[g]?):mS w' v fl:=by
 obtain ⟨oa,c,rfl,hk⟩:=h;refine ⟨oa,c,rfl,fun i hi=>?_⟩;obtain ⟨g,cur,fr,h1,h2,h3,h4⟩:=hk i hi;have hb:=hs g cur fr h2;exact ⟨g,cur,fr,h1,hb.trans h2,(World.cell?_of_block (a:=⟨g,i * 2,none⟩) hb).trans h3,(World.cell?_of_block (a:=⟨g,i * 2+1,none⟩) hb).trans h4⟩
theorem mS.go {w w':World} {v:Value} {fl:List (ByteArray × ByteArray)} {s s':ai} (h:mS w v fl) (hi:s.In w) (hg:aC s s' w w'):mS w' v fl :=
 h.same (fun g _ _ hc=>(hg.keeps hi hc (by decide) (by decide) (by decide) (by decide)).trans hc.symm)
structure On (w:World) (sb:Nat) (s:ai):Prop where
 sb:SB w sb s.b
 ay:s.In w
 gl:Gl w
 low:fN s
theorem On.later {w w':World} {sb:Nat} {s:ai} (h:On w sb s) (hb:Below w.heap.size w w'):On w' sb s:=⟨h.sb.later hb,h.ay.later hb,h.gl.later hb,h.low⟩
theorem On.go {w w':World} {sb:Nat} {s s':ai} (h:On w sb s) (hg:aC s s' w w'):On w' sb s':=⟨h.sb.go h.ay hg,hg.ay,(h.gl.go h.low hg).1,(h.gl.go h.low hg).2⟩
def CC (n j:Nat):List bU:=(List.range j).map fun t=>fM (fk (n - 1 - t))
theorem Ql2 (n j:Nat):CC n (j+1)=CC n j ++ [fM (fk (n - 1 - j))]:=by
 unfold CC;rw [List.range_succ,List.map_append];rfl
def tV (n:Nat):List bU:=if n=0 then [] else CC n n ++ [gQ]
theorem xt (i:Nat) (hi:i<=300):(fk i).size<=30:=by
 have h2:=Lib.itoa_length_le ((i:Nat):Int) (by omega) (by omega);have h1:(fk i).size=(Qr++Lib.itoa (i:Int)).length:=by simp [fk,ByteArray.size]
 rw [h1,List.length_append,show Qr.length=7 from rfl];omega
end Go.Proofs.YtncigfibncmioaaGreatDoor
namespace Go.Proofs.YtncigfibncmioaaGreatDoor
open Go.RowKit
theorem Qtg (n j:Nat):eM (CC n j)=0:=by
 induction j with
 | zero=>rfl
 | succ j ih =>
  rw [Ql2];unfold eM at ih ⊢;rw [List.map_append,List.sum_append,ih];rfl
theorem Qth (n j:Nat):(CC n j).length=j:=by simp [CC]
theorem QvE {s:ai} {w:World} {p:ByteArray} {L C B:Nat} (h:s.In w) (hf:au s.ds L C B) (hb:cZ L C B) (hp:p.size<=9223372036854775807) :
  Calls Tryz.prog 117 #[.pointer (some ⟨s.b,0,none⟩),.string p] w (xV s w fun k D'=>fK s.ds (fM p) k D'):=Rm s p w h hf hb hp
theorem Qj8 (sb:Nat) (s:ai) (n:Nat) (w:World) {L C B:Nat} (h:On w sb s) (hf:au s.ds L C B) (hb:cZ (L+n+1) (C+n+1) B) (hn:n<=300) :
  Calls Tryz.prog 188 #[.pointer (some ⟨sb,0,none⟩),.int .i64 ((n:Nat):Int)] w fun e w'=>e = .returned (.tuple #[])/\∃ s',aC s s' w w'/\j4 s.ds (tV n) s'.ds:=by
 have H:=aa h;have HF:=aa hf;have HB:=aa hb;clear h hf hb
 by_cases yr:n=0
 ·subst yr;go_enter Tryz.func188,Tryz.ntmps188;go_wp2_with fail;refine bodyPost_ret (results_none rfl _ _ _) rfl ?_;exact ⟨rfl,s,aC.refl H.out.ay (Below.refl _ _),rfl⟩
 ·have hz:(((n:Nat):Int) == 0)=false:=by simp;omega
  have hz2:¬ ((n:Nat):Int)=0:=by omega
  go_enter Tryz.func188,Tryz.ntmps188;go_wp2_with fail
  go_loopw [4] (fun iv wr=>∃ (j:Nat) (s1:ai),j<=n/\iv = .int .i64 ((n:Int) - 1 - (j:Int))/\aC s s1 w wr/\j4 s.ds (CC n j) s1.ds) (fun iv _=>(intOf iv+1).toNat)
  case atStart=>exact ⟨0,s,Nat.zero_le _,by simp,aC.refl H.out.ay (Below.refl _ _),rfl⟩
  case round =>
   obtain ⟨j,s1,hj,rfl,hgo,hr⟩:=hrel;have iA:=H.out.go hgo;have eY:=aa iA;have cQ:=aa hgo;have HR:=aa hr;have rE:=HF.out.CD hr;rw [Qth,Qtg] at rE;have rA:=aa rE;obtain ⟨cv,tv,hbl⟩:=iA.sb;have c0:wr.cell? ⟨sb,0,none⟩=some (.pointer (some ⟨s1.b,0,none⟩)):=cell_of_row _ _ 0 _ _ _ hbl;clear iA hgo hr rE hbl
   by_cases hlt:j<n
   ·obtain ⟨m,hm⟩ : ∃ m:Nat,(n:Int) - 1 - (j:Int)=(m:Int):=⟨n - 1 - j,by omega⟩;have j8:m=n - 1 - j:=by omega
    rw [hm];have d1:decide ((0:Int)<=((m:Nat):Int))=true:=decide_eq_true (by omega);have fJ:=xt m (by omega);have HP:=aa (A7 m (by omega) wr.drew (eY.out.later (Below.refl _ _).drew).gl.tab);have lp:=aa (fun (w':World) (hb':Below wr.heap.size wr w')=>QvE (p:=fk m) (eY.out.ay.later hb') rA.out (HB.out.mono (by omega) (by omega) (by omega)) (by omega));have Qn:=aa j8;have HM:=aa hm;clear j8 hm fJ;go_wp2_with fail
    go_region_with (first|(go_at_call 139;refine (HP.out).mono ?_;rintro _ w2 ⟨rfl,hb2⟩;have hb3:Below wr.heap.size wr w2:=((Below.refl wr.heap.size wr).drew).trans hb2;have c1:=cell_later hb3 c0)|(go_at_call 117;refine (lp.out _ hb3).mono ?_;rintro _ w3 ⟨v,k,s2,rfl,hv,hg2,hst⟩))
    all_goals
     have bP:=aa (cQ.out.trans ((aC.refl eY.out.ay hb3).trans hg2));have HST:=aa hst;clear hg2 hst hv hb2 hb3 c0 c1 HP lp;go_wp2_with fail;have hw:Go.RowKit.wrap64 (((m:Nat):Int) - 1)=((m:Nat):Int) - 1:=by unfold Go.RowKit.wrap64;have:=HM.out;omega
     rw [hw];refine ⟨⟨j+1,s2,hlt,?_,bP.out,?_⟩,?_⟩
     ·congr 1;have:=HM.out;omega
     ·rw [Ql2,<- Qn.out];exact HR.out.snoc HST.out
     ·simp only [intOf];omega
   ·have ly:j=n:=by omega
    subst ly;have d1:decide ((0:Int)<=(j:Int) - 1 - (j:Int))=false:=decide_eq_false (by omega);have j1:=aa (Dx s1 wr eY.out.ay rA.out (HB.out.mono (by omega) (by omega) (by omega)));go_wp2_with fail;refine j1.out.mono ?_;rintro _ w3 ⟨v,k,s2,rfl,hv,hg2,hst⟩;dsimp only;have bP:=aa (cQ.out.trans hg2);have HST:=aa hst;clear hg2 hst hv c0;go_wp2_with fail
    go_end0
    refine ⟨rfl,s2,bP.out,?_⟩;unfold tV;rw [if_neg yr];exact HR.out.snoc (t:=gQ) HST.out
open Go.RowKit
theorem Qq {S:List bU} {D D1 D2:DS} {i m:Nat} {t:bU} {k:Int} (h:bM D (S.take i) 0 m D1) (ht:S[i]? = some t) (hs:fK D1 t k D2):(k=0->bM D (S.take (i+1)) 0 (m+1) D2)/\(k≠0->∃ n,bM D S k n D2):=by
 have hi:i<S.length:=(List.getElem?_eq_some_iff.1 ht).1;have e1:S.take (i+1)=S.take i ++ [t]:=by
  rw [List.take_succ_eq_append_getElem hi];rw [List.getElem?_eq_getElem hi] at ht;rw [Option.some.inj ht]
 have h1:=h.app (bM.one hs)
 constructor
 ·intro hk;rw [e1];rw [if_pos hk,hk] at h1;exact h1
 ·intro hk;have h2:=h1.stop (S.drop (i+1)) hk;rw [<- e1,List.take_append_drop] at h2;exact ⟨_,h2⟩
theorem Qq4 (S:List bU):∀ i,eM (S.take i)<=eM S:=by
 induction S with
 | nil=>intro i;simp [eM]
 | cons t S ih =>
  intro i
  cases i with
  | zero=>simp [eM]
  | succ i =>
   have:=ih i;unfold eM at this ⊢;simp only [List.take_succ_cons,List.map_cons,List.sum_cons];omega
theorem au.take {S:List bU} {D D1:DS} {L C B i m:Nat} {k:Int} (h:au D L C B) (hr:bM D (S.take i) k m D1):au D1 (L+S.length) (C+S.length) (B+eM S) :=
 (h.ran hr).mono (by rw [List.length_take];omega) (by rw [List.length_take];omega) (by have:=Qq4 S i;omega)
def pN (fl:List (ByteArray × ByteArray)):List bU:=(List.range fl.length).map (fun t=>oC (fk t))++((List.range fl.length).map (fun t=>gv (fk t) (fl.getD t f0).1) ++ [gQ])
theorem Ue (fl:List (ByteArray × ByteArray)):(pN fl).length=fl.length+(fl.length+1):=by simp [pN]
theorem QuV (fl:List (ByteArray × ByteArray)) (j:Nat) (hj:j<fl.length):(pN fl)[j]? = some (oC (fk j)):=by
 unfold pN;rw [List.getElem?_append_left (by simpa using hj)];simp [hj]
theorem QuW (fl:List (ByteArray × ByteArray)) (j:Nat) (hj:j<fl.length):(pN fl)[fl.length+j]? = some (gv (fk j) (fl.getD j f0).1):=by
 unfold pN;rw [List.getElem?_append_right (by simp),List.length_map,List.length_range,Nat.add_sub_cancel_left,List.getElem?_append_left (by simpa using hj)];simp [hj]
theorem QuX (fl:List (ByteArray × ByteArray)):(pN fl)[fl.length+fl.length]? = some gQ:=by
 unfold pN;rw [List.getElem?_append_right (by simp),List.length_map,List.length_range,Nat.add_sub_cancel_left,List.getElem?_append_right (by simp)];simp
theorem QuY (fl:List (ByteArray × ByteArray)):eM (pN fl)=0:=by
 have h1:∀ l:List Nat,eM (l.map (fun t=>oC (fk t)))=0:=fun l=>by
  induction l with
  | nil=>rfl
  | cons a l ih=>unfold eM at ih ⊢;simp only [List.map_cons,List.sum_cons,ih];rfl
 have h2:∀ l:List Nat,eM (l.map (fun t=>gv (fk t) (fl.getD t f0).1))=0:=fun l=>by
  induction l with
  | nil=>rfl
  | cons a l ih=>unfold eM at ih ⊢;simp only [List.map_cons,List.sum_cons,ih];rfl
 have h3:=h1 (List.range fl.length);have h4:=h2 (List.range fl.length);unfold pN;unfold eM at h3 h4 ⊢;rw [List.map_append,List.map_append,List.sum_append,List.sum_append,h3,h4];rfl
theorem QvF {s:ai} {w:World} {p:ByteArray} {L C B:Nat} (h:s.In w) (hf:au s.ds L C B) (hb:cZ L C B) (hp:p.size<=9223372036854775807) :
  Calls Tryz.prog 229 #[.pointer (some ⟨s.b,0,none⟩),.string p] w (xV s w fun k D'=>fK s.ds (oC p) k D'):=Qt3 s p w h hf hb hp
theorem QvG {s:ai} {w:World} {p q:ByteArray} {L C B:Nat} (h:s.In w) (hf:au s.ds L C B) (hb:cZ L C B) (hp:p.size<=9223372036854775807) (hq:q.size<=9223372036854775807) :
  Calls Tryz.prog 120 #[.pointer (some ⟨s.b,0,none⟩),.string p,.string q] w (xV s w fun k D'=>fK s.ds (gv p q) k D'):=Oq s p q w h hf hb hp hq
theorem QvH {s:ai} {w:World} {L C B:Nat} (h:s.In w) (hf:au s.ds L C B) (hb:cZ L C B) :
  Calls Tryz.prog 118 #[.pointer (some ⟨s.b,0,none⟩)] w (xV s w fun k D'=>fK s.ds gQ k D'):=Dx s w h hf hb
theorem QkV (sb:Nat) (s:ai) (v:Value) (fl:List (ByteArray × ByteArray)) (w:World) {L C B:Nat} (h:On w sb s) (gZ:mS w v fl) (hf:au s.ds L C B) (hb:cZ (L+(pN fl).length) (C+(pN fl).length) (B+eM (pN fl))) (hn:fl.length<=300) (hp:∀ f∈fl,f.1.size<=1000) :
  Calls Tryz.prog 190 #[.pointer (some ⟨sb,0,none⟩),v] w fun e w'=>∃ ev k m s',e = .returned ev/\bR w' ev k/\aC s s' w w'/\bM s.ds (pN fl) k m s'.ds:=by
 have H:=aa h;have HF:=aa hf;have HB:=aa hb;have Ii:=aa gZ;have HP:=aa hp;obtain ⟨oa,c,rfl, -⟩:=gZ;obtain ⟨n,kP⟩ : ∃ n,n=fl.length:=⟨_,rfl⟩;rw [<- kP] at Ii hn ⊢;have HN:=aa kP;clear h hf hb hp kP;go_enter Tryz.func190,Tryz.ntmps190;go_wp2_with fail
 go_loopw [12] (fun iv wr=>∃ (j:Nat) (s1:ai),j<=n/\iv = .int .i64 ((j:Nat):Int)/\aC s s1 w wr/\bM s.ds ((pN fl).take j) 0 j s1.ds) (fun iv _=>n - (intOf iv).toNat)
 case atStart=>exact ⟨0,s,Nat.zero_le _,rfl,aC.refl H.out.ay (Below.refl _ _),rfl,rfl,rfl⟩
 case round =>
  obtain ⟨j,s1,hj,rfl,hgo,hr⟩:=hrel;have iA:=H.out.go hgo;have eY:=aa iA;have cQ:=aa hgo;have HR:=aa hr;have rA:=aa (HF.out.take hr);obtain ⟨cv,tv,hbl⟩:=iA.sb;have c0:wr.cell? ⟨sb,0,none⟩=some (.pointer (some ⟨s1.b,0,none⟩)):=cell_of_row _ _ 0 _ _ _ hbl;clear iA hgo hr hbl
  by_cases hlt:j<n
  ·have fJ:=xt j (by omega);have oP:=aa (A7 j (by omega) wr.drew (eY.out.later (Below.refl _ _).drew).gl.tab);have Gu:=aa (fun (w':World) (hb':Below wr.heap.size wr w')=>QvF (p:=fk j) (eY.out.ay.later hb') rA.out HB.out (by omega));clear fJ;go_wp2_with fail
   go_region_with (first|(go_at_call 139;refine (oP.out).mono ?_;rintro _ w2 ⟨rfl,hb2⟩;have hb3:Below wr.heap.size wr w2:=((Below.refl wr.heap.size wr).drew).trans hb2;have c1:=cell_later hb3 c0)|(go_at_call 229;refine (Gu.out _ hb3).mono ?_;rintro _ w3 ⟨ev,k,s2,rfl,hv,hg2,hst⟩))
   all_goals
    have bP:=aa (cQ.out.trans ((aC.refl eY.out.ay hb3).trans hg2));have fP:=aa (Qq HR.out (QuV fl j (by rw [<- HN.out];exact hlt)) hst);clear hg2 hst hb2 hb3 c0 c1 oP Gu
    rcases hv with ⟨bu,rfl⟩|⟨bu,sv,nm,rfl,iY⟩
    ·have Ij:=aa (fP.out.1 bu);clear fP bu;go_wp2_with fail;exact ⟨⟨j+1,s2,hlt,by simp,bP.out,Ij.out⟩,by simp only [intOf];omega⟩
    ·have HE:=aa iY;clear iY;go_wp2_with fail;go_ret;obtain ⟨m,hm⟩:=fP.out.2 bu;exact ⟨_,k,m,s2,rfl,.inr ⟨bu,sv,nm,rfl,HE.out⟩,bP.out,hm⟩
  ·have ly:j=n:=by omega
   subst ly;have d1:decide (((j:Nat):Int)<((j:Nat):Int))=false:=decide_eq_false (by omega);clear c0;go_wp2_with fail
   go_loopw [28] (fun iv wq=>∃ (i:Nat) (s1:ai),i<=j/\iv = .int .i64 ((i:Nat):Int)/\aC s s1 w wq/\bM s.ds ((pN fl).take (j+i)) 0 (j+i) s1.ds) (fun iv _=>j - (intOf iv).toNat)
   case atStart=>exact ⟨0,s1,Nat.zero_le _,rfl,cQ.out,HR.out⟩
   case round =>
    clear eY cQ HR rA;obtain ⟨i,s2,hi,rfl,hgo,hr⟩:=hrel;have iA:=H.out.go hgo;have eY:=aa iA;have cQ:=aa hgo;have HR:=aa hr;have rA:=aa (HF.out.take hr);have wE:=Ii.out.go H.out.ay hgo;obtain ⟨cv,tv,hbl⟩:=iA.sb;have c0:wr.cell? ⟨sb,0,none⟩=some (.pointer (some ⟨s2.b,0,none⟩)):=cell_of_row _ _ 0 _ _ _ hbl;clear iA hgo hr hbl
    by_cases hlt:i<j
    ·have fJ:=xt i (by omega);have kW:i<fl.length:=by rw [<- HN.out];exact hlt
     obtain ⟨R2,cc2,hv2,hk2⟩:=wE;injection hv2 with hv2 hv3 hv4
     subst hv2;clear hv3 hv4;obtain ⟨g,cur,fr,rfl,Vw,r0,r1⟩:=hk2 i kW;have bc:fl.getD i f0∈fl:=by rw [List.getD_eq_getElem?_getD,List.getElem?_eq_getElem kW];exact List.getElem_mem kW
     have ke:=HP.out _ bc;have Ik:=aa (QuW fl i kW);generalize fl.getD i f0=ff at r0 r1 ke Ik;obtain ⟨fp,fb⟩:=ff;dsimp only at r0 r1 ke Ik;have bh:Below wr.heap.size wr (wr.alloc (.cells #[.string fp,.string fb] 222)):=(Below.refl _ _).alloc (Nat.le_refl _) _;have Vx:=cell_later bh c0;obtain ⟨X,hX⟩ : ∃ X,X=wr.alloc (.cells #[.string fp,.string fb] 222):=⟨_,rfl⟩;have JU:X.heap[wr.heap.size]? = some (.cells #[.string fp,.string fb] 222 (0,0)):=by rw [hX];exact heap_alloc_new _ _
     rw [<- hX] at bh Vx;have cI:=aa bh;have oP:=aa (A7 i (by omega) X.drew ((eY.out.later bh).later (Below.refl _ _).drew).gl.tab);have Gu:=aa (fun (w':World) (hb':Below wr.heap.size wr w')=>QvG (p:=fk i) (q:=fp) (eY.out.ay.later hb') rA.out HB.out (by omega) (by omega));have x0:X.cell? ⟨wr.heap.size,0,none⟩=some (.string fp):=cell_of_row _ _ 0 _ _ _ JU;have oU:=aa hX;clear fJ hk2 Vw bc ke bh JU hX;go_upto_region 11 with fail
     rw [<- oU.out];clear oU c0 r0 r1;obtain ⟨xb,gF⟩ : ∃ xb,xb=wr.heap.size:=⟨_,rfl⟩;rw [<- gF] at x0 ⊢;clear gF
     go_region_with (first|(go_at_call 139;refine (oP.out).mono ?_;rintro _ w2 ⟨rfl,hb2⟩;have hb3:Below X.heap.size X w2:=((Below.refl X.heap.size X).drew).trans hb2;have c1:=cell_later hb3 Vx;have x1:=cell_later hb3 x0)|(go_at_call 120;refine (Gu.out _ (cI.out.trans (hb3.mono cI.out.size))).mono ?_;rintro _ w3 ⟨ev,k,s3,rfl,hv,hg2,hst⟩))
     all_goals
      have bP:=aa (cQ.out.trans ((aC.refl eY.out.ay (cI.out.trans (hb3.mono cI.out.size))).trans hg2));have fP:=aa (Qq HR.out (by rw [HN.out];exact Ik.out) hst);clear hg2 hst hb2 hb3 Vx c1 x0 x1 oP Gu
      rcases hv with ⟨bu,rfl⟩|⟨bu,sv,nm,rfl,iY⟩
      ·have Ij:=aa (fP.out.1 bu);clear fP bu;go_wp2_with fail;exact ⟨⟨i+1,s3,hlt,by simp,bP.out,Ij.out⟩,by simp only [intOf];omega⟩
      ·have HE:=aa iY;clear iY;go_wp2_with fail;go_ret;obtain ⟨m,hm⟩:=fP.out.2 bu;exact ⟨_,k,m,s3,rfl,.inr ⟨bu,sv,nm,rfl,HE.out⟩,bP.out,hm⟩
    ·have cJ:i=j:=by omega
     subst cJ;have d2:decide (((i:Nat):Int)<((i:Nat):Int))=false:=decide_eq_false (by omega);have j1:=aa (QvH (s:=s2) (w:=wr) eY.out.ay rA.out HB.out);clear wE;go_wp2_with fail;refine j1.out.mono ?_;rintro _ w3 ⟨ev,k,s3,rfl,hv,hg2,hst⟩;dsimp only;have bP:=aa (cQ.out.trans hg2);have fP:=aa (Qq HR.out (by rw [HN.out];exact QuX fl) hst);have HV:=aa hv;have tQ:∃ u,ev = .nilIface∨ev = .iface 165 u:=by
      rcases hv with ⟨_,rfl⟩|⟨_,sv,nm,rfl,_⟩
      ·exact ⟨.nilIface,.inl rfl⟩
      ·exact ⟨_,.inr rfl⟩
     clear hg2 hst hv c0;go_wp2_with fail;go_ret
     by_cases bu:k=0
     ·refine ⟨ev,k,i+i+1,s3,rfl,HV.out,bP.out,?_⟩;have h7:=fP.out.1 bu;rw [List.take_of_length_le (by rw [Ue,<- HN.out];omega)] at h7;rw [bu];exact h7
     ·obtain ⟨m,hm⟩:=fP.out.2 bu;exact ⟨ev,k,m,s3,rfl,HV.out,bP.out,hm⟩
open Go.RowKit
theorem aC.fX {s s1:ai} {w wr:World} {b i:Nat} {cur:Array Value} {T:TypeId} {v:Value} (hg:aC s s1 w wr) (hb:w.heap.size<=b) (hc:wr.heap[b]? = some (.cells cur T (0,0))) (h1:T≠150) (h2:T≠214) (h3:T≠154) (h4:T≠5):aC s s1 w (wr.setCell ⟨b,i,none⟩ v):=by
 have dh:∀ k,k≠b->(wr.setCell ⟨b,i,none⟩ v).heap[k]? = wr.heap[k]?:=fun k hk=>heap_setCell_other _ _ _ _ (by simpa using hk)
 have hg1:=nE wr b i v;exact ⟨hg.b,hg.ay.same (fun k hk=>dh k (fun e=>hg.ay.gh hc h1 h2 h3 h4 (by rw [<- e];exact hk))),⟨hg1.os.trans hg.gr.os,hg1.tape.trans hg.gr.tape,hg1.output.trans hg.gr.output,Nat.le_trans hg.gr.size hg1.size,fun k hk hn=>(dh k (by omega)).trans (hg.gr.block k hk hn)⟩,hg.own⟩
theorem QvN {s:ai} {w:World} {p q:ByteArray} {L C B:Nat} (h:s.In w) (hf:au s.ds L C B) (hb:cZ L C B) (hp:p.size<=9223372036854775807) (hq:q.size<=1000000) :
  Calls Tryz.prog 189 #[.pointer (some ⟨s.b,0,none⟩),.string p,.string q] w (xV s w fun k D'=>fK s.ds (oB p q) k D'):=QpT s p q w h hf hb hp hq
def A9 (fl:List (ByteArray × ByteArray)):List bU:=(List.range fl.length).map fun t=>oB (fk t) (fl.getD t f0).2
def jq (fl:List (ByteArray × ByteArray)):List bU:=A9 fl++pN fl
theorem Il (fl:List (ByteArray × ByteArray)):(A9 fl).length=fl.length:=by simp [A9]
theorem Qu3 (fl:List (ByteArray × ByteArray)) (j:Nat) (hj:j<fl.length):(A9 fl)[j]? = some (oB (fk j) (fl.getD j f0).2):=by simp [A9,hj]
def MA (D:DS) (fl:List (ByteArray × ByteArray)) (k:Int) (D':DS):Prop:=∃ m D1,bM D (jq fl) k m D1/\((k=0/\D'=D1)∨(k≠0/\j4 D1 (tV (min m fl.length)) D'))
theorem Qpq (ge gs gl:Nat) (u:FrameMode) (w:World) (he:w.cell? ⟨ge,0,none⟩=some .nilIface) :
  CallsD Tryz.prog 187 #[.pointer (some ⟨ge,0,none⟩),.pointer (some ⟨gs,0,none⟩),.pointer (some ⟨gl,0,none⟩)] u w fun e u' w'=>u'=u/\(e = .returned (.tuple #[])/\w'=w):=by
 go_enter_d Tryz.func187,Tryz.ntmps187
 go_wp2_with fail
 go_end0
 exact ⟨rfl,rfl⟩
theorem QhZ (ge gs gl sb n:Nat) (s:ai) (sv:Nat) (u:FrameMode) (w:World) {L C B:Nat} (he:w.cell? ⟨ge,0,none⟩=some (.iface 165 (.pointer (some ⟨sv,0,none⟩)))) (hs:w.cell? ⟨gs,0,none⟩=some (.pointer (some ⟨sb,0,none⟩))) (hl:w.cell? ⟨gl,0,none⟩=some (.int .i64 ((n:Nat):Int)))
  (h:On w sb s) (hf:au s.ds L C B) (hb:cZ (L+n+1) (C+n+1) B) (hn:n<=300) :
  CallsD Tryz.prog 187 #[.pointer (some ⟨ge,0,none⟩),.pointer (some ⟨gs,0,none⟩),.pointer (some ⟨gl,0,none⟩)] u w fun e u' w'=>u'=u/\(e = .returned (.tuple #[])/\∃ s',aC s s' w w'/\j4 s.ds (tV n) s'.ds):=by
 have HT:=aa (Qj8 sb s n w h hf hb hn);clear h hf hb
 go_enter_d Tryz.func187,Tryz.ntmps187
 go_wp2_with fail;refine HT.out.mono ?_;rintro _ w1 ⟨rfl,s1,h1,h2⟩;dsimp only;have H1:=aa h1;have H2:=aa h2;clear h1 h2 he hs hl;go_wp2_with fail
 go_end0
 exact ⟨rfl,s1,H1.out,H2.out⟩
theorem Qpr {S:List bU} {D D1 D2:DS} {i m:Nat} {t:bU} {k:Int} (h:bM D (S.take i) 0 m D1) (ht:S[i]? = some t) (hs:fK D1 t k D2) (hk:k≠0):bM D S k m D2:=by
 have hi:i<S.length:=(List.getElem?_eq_some_iff.1 ht).1;have e1:S.take (i+1)=S.take i ++ [t]:=by
  rw [List.take_succ_eq_append_getElem hi];rw [List.getElem?_eq_getElem hi] at ht;rw [Option.some.inj ht]
 have h1:=h.app (bM.one hs);rw [if_neg hk,Nat.add_zero] at h1;have h2:=h1.stop (S.drop (i+1)) hk;rw [<- e1,List.take_append_drop] at h2;exact h2
theorem JC (fl:List (ByteArray × ByteArray)):(jq fl).length=fl.length+(pN fl).length:=by unfold jq;rw [List.length_append,Il]
theorem Vy (fl:List (ByteArray × ByteArray)):eM (jq fl)=eM (A9 fl)+eM (pN fl):=by unfold jq eM;rw [List.map_append,List.sum_append]
structure WV (w:World) (gs ge gl sb j:Nat) (ev:Value):Prop where
 s:w.heap[gs]? = some (.cells #[.pointer (some ⟨sb,0,none⟩)] 92 (0,0))
 e:w.heap[ge]? = some (.cells #[ev] 94 (0,0))
 l:w.heap[gl]? = some (.cells #[.int .i64 ((j:Nat):Int)] 3 (0,0))
theorem WV.later {w w':World} {gs ge gl sb j:Nat} {ev:Value} (h:WV w gs ge gl sb j ev) (hb:Below w.heap.size w w'):WV w' gs ge gl sb j ev :=
 ⟨(hb.block _ (eB h.s)).trans h.s,(hb.block _ (eB h.e)).trans h.e,(hb.block _ (eB h.l)).trans h.l⟩
theorem WV.go {w w':World} {gs ge gl sb j:Nat} {ev:Value} {s s':ai} (h:WV w gs ge gl sb j ev) (hi:s.In w) (hg:aC s s' w w'):WV w' gs ge gl sb j ev :=
 ⟨hg.keeps hi h.s (by decide) (by decide) (by decide) (by decide),hg.keeps hi h.e (by decide) (by decide) (by decide) (by decide),hg.keeps hi h.l (by decide) (by decide) (by decide) (by decide)⟩
theorem WV.VH {w:World} {gs ge gl sb j:Nat} {ev:Value} (h:WV w gs ge gl sb j ev) (j':Nat):WV (w.setCell ⟨gl,0,none⟩ (.int .i64 ((j':Nat):Int))) gs ge gl sb j' ev :=
 ⟨(heap_setCell_other _ _ _ _ (by simpa using ja h.s h.l (by decide))).trans h.s,(heap_setCell_other _ _ _ _ (by simpa using ja h.e h.l (by decide))).trans h.e,by rw [heap_setCell_same _ gl 0 _ _ _ h.l];rfl⟩
theorem WV.wF {w:World} {gs ge gl sb j:Nat} {ev:Value} (h:WV w gs ge gl sb j ev) (Dw:Value):WV (w.setCell ⟨ge,0,none⟩ Dw) gs ge gl sb j Dw :=
 ⟨(heap_setCell_other _ _ _ _ (by simpa using ja h.s h.e (by decide))).trans h.s,by rw [heap_setCell_same _ ge 0 _ _ _ h.e];rfl,(heap_setCell_other _ _ _ _ (by simpa using ja h.l h.e (by decide))).trans h.l⟩
def W4 (w:World) (gs gl sb xb b j:Nat) (fb:ByteArray):Prop:=w.cell? ⟨gs,0,none⟩=some (.pointer (some ⟨sb,0,none⟩))/\w.cell? ⟨sb,0,none⟩=some (.pointer (some ⟨b,0,none⟩))/\w.cell? ⟨gl,0,none⟩=some (.int .i64 ((j:Nat):Int))/\w.cell? ⟨xb,1,none⟩=some (.string fb)
theorem Qu4 {w:World} {gs ge gl sb xb b j:Nat} {ev:Value} {fp fb:ByteArray} (h1:WV w gs ge gl sb j ev) (h2:SB w sb b) (h3:w.heap[xb]? = some (.cells #[.string fp,.string fb] 222 (0,0))):W4 w gs gl sb xb b j fb:=by
 obtain ⟨cv,tv,h2⟩:=h2;exact ⟨cell_of_row _ _ 0 _ _ _ h1.s,cell_of_row _ _ 0 _ _ _ h2,cell_of_row _ _ 0 _ _ _ h1.l,cell_of_row _ _ 1 _ _ _ h3⟩
theorem QvO {w w':World} {gs ge gl sb xb j:Nat} {s s':ai} {ev:Value} {fp fb:ByteArray} (h1:WV w gs ge gl sb j ev) (h2:SB w sb s.b) (h3:w.heap[xb]? = some (.cells #[.string fp,.string fb] 222 (0,0))) (hi:s.In w) (hg:aC s s' w w'):W4 w' gs gl sb xb s.b j fb:=by
 have h4:=h2.go hi hg;rw [hg.b] at h4;exact Qu4 (h1.go hi hg) h4 (hg.keeps hi h3 (by decide) (by decide) (by decide) (by decide))
theorem Qj9 (sb:Nat) (s:ai) (v:Value) (fl:List (ByteArray × ByteArray)) (w:World) {L C B:Nat} (h:On w sb s) (gZ:mS w v fl) (hf:au s.ds L C B) (hb:cZ (L+(jq fl).length+fl.length+1) (C+(jq fl).length+fl.length+1) (B+eM (jq fl))) (yr:fl≠[]) (hn:fl.length<=300) (hp:∀ f∈fl,f.1.size<=1000/\f.2.size<=1000000) :
  Calls Tryz.prog 138 #[.pointer (some ⟨sb,0,none⟩),v] w fun e w'=>∃ ev k s',e = .returned ev/\bR w' ev k/\aC s s' w w'/\MA s.ds fl k s'.ds:=by
 have H:=aa h;have HF:=aa hf;have HB:=aa hb;have Ii:=aa gZ;have HP:=aa hp;obtain ⟨oa,c,rfl, -⟩:=gZ;obtain ⟨n,kP⟩ : ∃ n,n=fl.length:=⟨_,rfl⟩;have XE:0<n:=by rw [kP];exact List.length_pos_iff.2 yr
 have hz:(((n:Nat):Int) == 0)=false:=by simp;omega
 have hz2:¬ ((n:Nat):Int)=0:=by omega
 rw [<- kP] at Ii hn ⊢;have HN:=aa kP;have Fb:∀ (fn:Fn) (first cap:Array Value) (w:World),(Instr.makeFunc fn first cap).run Tryz.prog w = .ok (.func fn first cap) w:=fun _ _ _ _=>rfl
 have hb3:=Al w (.cells #[.pointer (some ⟨sb,0,none⟩)] 92) (.cells #[.nilIface] 94) (.cells #[.int .i64 0] 3);have k0:=IX w #[.pointer (some ⟨sb,0,none⟩)] 92 (.cells #[.nilIface] 94) (.cells #[.int .i64 0] 3);have k1:=Fa w (.cells #[.pointer (some ⟨sb,0,none⟩)] 92) #[.nilIface] 94 (.cells #[.int .i64 0] 3);have k2:=IY w (.cells #[.pointer (some ⟨sb,0,none⟩)] 92) (.cells #[.nilIface] 94) #[.int .i64 0] 3;have j7:=aa hb3;have uy:=aa k0;have Qs:=aa k1;have BH:=aa k2;clear h hf hb hp kP hb3 k0 k1 k2 yr
 go_enter_defers Tryz.func138,Tryz.ntmps138
 go_wp2_with fail;obtain ⟨gs,vA⟩ : ∃ gs,gs=w.heap.size:=⟨_,rfl⟩;obtain ⟨ge,rM⟩ : ∃ ge,ge=w.heap.size+1:=⟨_,rfl⟩;obtain ⟨gl,cX⟩ : ∃ gl,gl=w.heap.size+1+1:=⟨_,rfl⟩;have Iq:WV (((w.alloc (.cells #[.pointer (some ⟨sb,0,none⟩)] 92)).alloc (.cells #[.nilIface] 94)).alloc (.cells #[.int .i64 0] 3)) gs ge gl sb 0 .nilIface:=by
  rw [vA,rM,cX];exact ⟨uy.out,Qs.out,BH.out⟩
 obtain ⟨w0,hw0⟩ : ∃ w0,w0=(((w.alloc (.cells #[.pointer (some ⟨sb,0,none⟩)] 92)).alloc (.cells #[.nilIface] 94)).alloc (.cells #[.int .i64 0] 3)):=⟨_,rfl⟩;have hb0:=j7.out;rw [<- hw0] at Iq hb0 ⊢;rw [<- cX,<- rM,<- vA];have mn:w.heap.size<=ge/\w.heap.size<=gl:=by omega
 have Da:=aa mn;have NI:=aa Iq;have ir:=aa hb0;clear hw0 Iq hb0 vA rM cX mn uy Qs BH j7 hz hz2 Fb
 go_loopw [15] (fun iv wr=>∃ (j:Nat) (s1:ai),j<=n/\iv = .int .i64 ((j:Nat):Int)/\aC s s1 w wr/\bM s.ds ((A9 fl).take j) 0 j s1.ds/\WV wr gs ge gl sb j .nilIface) (fun iv _=>n - (intOf iv).toNat)
 case atStart=>exact ⟨0,s,Nat.zero_le _,rfl,aC.refl H.out.ay ir.out,⟨rfl,rfl,rfl⟩,NI.out⟩
 case round =>
  clear NI ir;obtain ⟨j,s1,hj,rfl,hgo,hr,Qu⟩:=hrel;have iA:=H.out.go hgo;have eY:=aa iA;have cQ:=aa hgo;have HR:=aa hr;have rA:=aa ((HF.out.take hr).mono (L':=L+(jq fl).length) (C':=C+(jq fl).length) (B':=B+eM (jq fl)) (by rw [JC,Il];omega) (by rw [JC,Il];omega) (by rw [Vy];omega));have wE:=Ii.out.go H.out.ay hgo;have Qv:=aa Qu;obtain ⟨cv,tv,hbl⟩:=iA.sb;have c0:wr.cell? ⟨sb,0,none⟩=some (.pointer (some ⟨s1.b,0,none⟩)):=cell_of_row _ _ 0 _ _ _ hbl;have g0:wr.cell? ⟨gs,0,none⟩=some (.pointer (some ⟨sb,0,none⟩)):=cell_of_row _ _ 0 _ _ _ Qu.s;have l0:wr.cell? ⟨gl,0,none⟩=some (.int .i64 ((j:Nat):Int)):=cell_of_row _ _ 0 _ _ _ Qu.l;clear iA hgo hr hbl Qu
  by_cases hlt:j<n
  ·have fJ:=xt j (by omega);have kW:j<fl.length:=by rw [<- HN.out];exact hlt
   obtain ⟨R2,cc2,hv2,hk2⟩:=wE;injection hv2 with hv2 hv3 hv4
   subst hv2;clear hv3 hv4;obtain ⟨g,cur,fr,rfl,Vw,r0,r1⟩:=hk2 j kW;have bc:fl.getD j f0∈fl:=by rw [List.getD_eq_getElem?_getD,List.getElem?_eq_getElem kW];exact List.getElem_mem kW
   have ke:=HP.out _ bc;have Aj:=aa (Qu3 fl j kW);generalize fl.getD j f0=ff at r0 r1 ke Aj;obtain ⟨fp,fb⟩:=ff;dsimp only at r0 r1 ke Aj;have bh:Below wr.heap.size wr (wr.alloc (.cells #[.string fp,.string fb] 222)):=(Below.refl _ _).alloc (Nat.le_refl _) _;have cx:=cell_later bh c0;have gx:=cell_later bh g0;have lx:=cell_later bh l0;obtain ⟨X,hX⟩ : ∃ X,X=wr.alloc (.cells #[.string fp,.string fb] 222):=⟨_,rfl⟩;have JU:X.heap[wr.heap.size]? = some (.cells #[.string fp,.string fb] 222 (0,0)):=by rw [hX];exact heap_alloc_new _ _
   rw [<- hX] at bh cx gx lx;have cI:=aa bh;have oP:=aa (A7 j (by omega) X.drew ((eY.out.later bh).later (Below.refl _ _).drew).gl.tab);have Ga:=aa (fun (w':World) (hb':Below wr.heap.size wr w')=>QvN (p:=fk j) (q:=fb) (eY.out.ay.later hb') rA.out (HB.out.mono (by omega) (by omega) (Nat.le_refl _)) (by omega) ke.2);have x1:X.cell? ⟨wr.heap.size,1,none⟩=some (.string fb):=cell_of_row _ _ 1 _ _ _ JU;have e8:=aa JU;have oU:=aa hX;clear fJ hk2 Vw bc ke bh JU hX;go_upto_region 8 with fail
   rw [<- oU.out];clear oU c0 r0 r1 g0 l0;obtain ⟨xb,gF⟩ : ∃ xb,xb=wr.heap.size:=⟨_,rfl⟩;rw [<- gF] at x1 e8 ⊢;clear gF
   go_region_held3 (fun w'=>w'.cell? ⟨gs,0,none⟩=some (.pointer (some ⟨sb,0,none⟩))/\w'.cell? ⟨sb,0,none⟩=some (.pointer (some ⟨s1.b,0,none⟩))/\w'.cell? ⟨gl,0,none⟩=some (.int .i64 ((j:Nat):Int))/\w'.cell? ⟨xb,1,none⟩=some (.string fb)) (first|go_keep|exact eb|exact ie) ((first|(go_at_call 139;refine (oP.out).mono ?_;rintro _ w2 ⟨rfl,hb2⟩;have hb3:Below X.heap.size X w2:=((Below.refl X.heap.size X).drew).trans hb2;have hb4:Below wr.heap.size wr w2:=cI.out.trans (hb3.mono cI.out.size);have ie:=Qu4 (Qv.out.later hb4) (eY.out.sb.later hb4) ((hb3.block _ (eB e8.out)).trans e8.out))|(go_at_call 189;refine (Ga.out _ hb4).mono ?_;rintro _ w3 ⟨ev,k,s2,rfl,hv,hg2,hst⟩;have eb:=QvO (Qv.out.later hb4) (eY.out.sb.later hb4) ((hb3.block _ (eB e8.out)).trans e8.out) (eY.out.ay.later hb4) hg2)))
   have hg3:=cQ.out.trans ((aC.refl eY.out.ay hb4).trans hg2);have mV:=(Qv.out.later hb4).go (eY.out.ay.later hb4) hg2;have gq:=aa hg3;have mW:=aa mV;have HST:=aa hst;have l3:w3.cell? ⟨gl,0,none⟩=some (.int .i64 ((j:Nat):Int)):=cell_of_row _ _ 0 _ _ _ mV.l;have lf:w3.frozen? ⟨gl,0,none⟩=false:=frozen_of_row _ _ 0 _ _ mV.l;have e3:w3.cell? ⟨ge,0,none⟩=some .nilIface:=cell_of_row _ _ 0 _ _ _ mV.e;have ef:w3.frozen? ⟨ge,0,none⟩=false:=frozen_of_row _ _ 0 _ _ mV.e;clear hg2 hst hb2 hb3 hb4 ie eb cx gx lx x1 oP Ga hg3 mV
   rcases hv with ⟨bu,rfl⟩|⟨bu,sv,nm,rfl,iY⟩
   ·have fP:=aa ((Qq HR.out Aj.out HST.out).1 bu);clear bu e3 ef;go_wp2_with fail;have NJ:(((j:Nat):Int)+1)=(((j+1:Nat):Nat):Int):=by omega
    refine ⟨⟨j+1,s2,hlt,by simp,?_,fP.out,?_⟩,by simp only [intOf];omega⟩
    ·exact gq.out.fX Da.out.2 mW.out.l (by decide) (by decide) (by decide) (by decide)
    ·rw [NJ];exact mW.out.VH (j+1)
   ·have HE:=aa iY;have rN:=aa (Qpr HR.out Aj.out HST.out bu);have HK:=aa bu;clear iY bu l3 lf;go_wp2_with fail;have hg4:=gq.out.fX (v:=.iface 165 (.pointer (some ⟨sv,0,none⟩))) (i:=0) Da.out.1 mW.out.e (by decide) (by decide) (by decide) (by decide);have mX:=mW.out.wF (.iface 165 (.pointer (some ⟨sv,0,none⟩)));have EX:bM s.ds (jq fl) k j s2.ds:=rN.out.stop _ HK.out;refine leaves_cons (f:=187) (args:=#[.pointer (some ⟨ge,0,none⟩),.pointer (some ⟨gs,0,none⟩),.pointer (some ⟨gl,0,none⟩)]) (by simp) (by simp [go_sem]) ?_;refine (QhZ ge gs gl sb j s2 sv _ _ (cell_of_row _ _ 0 _ _ _ mX.e) (cell_of_row _ _ 0 _ _ _ mX.s) (cell_of_row _ _ 0 _ _ _ mX.l) (H.out.go hg4) (HF.out.ran EX) (HB.out.mono (by rw [<- HN.out];omega) (by rw [<- HN.out];omega) (Nat.le_refl _)) (by omega)).mono ?_;rintro e u' w5 ⟨rfl,rfl,s5,h5,h6⟩;have Ir:=mX.go hg4.ay h5;have c5:w5.cell? ⟨ge,0,none⟩=some (.iface 165 (.pointer (some ⟨sv,0,none⟩))):=cell_of_row _ _ 0 _ _ _ Ir.e;have Iu:w5.heap[sv]? = some (.cells #[.string nm,eI k] 167 (0,0)):=h5.keeps hg4.ay ((heap_setCell_other _ _ _ _ (by simpa using ja HE.out mW.out.e (by decide))).trans HE.out) (by decide) (by decide) (by decide) (by decide);refine ⟨.iface 165 (.pointer (some ⟨sv,0,none⟩)),?_,_,k,s5,rfl,.inr ⟨HK.out,sv,nm,rfl,Iu⟩,hg4.trans h5,j,s2.ds,EX,.inr ⟨HK.out,by rw [Nat.min_eq_left (by rw [<- HN.out];exact hj)];exact h6⟩⟩;simp [results,Tryz.results138,go_sem,c5]
  ·have ly:j=n:=by omega
   subst ly;have d1:decide (((j:Nat):Int)<((j:Nat):Int))=false:=decide_eq_false (by omega);have oX:bM s.ds (A9 fl) 0 j s1.ds:=by
    have h7:=HR.out;rwa [List.take_of_length_le (by rw [Il,<- HN.out];exact Nat.le_refl _)] at h7
   have VI:=aa oX;have hf2:=HF.out.ran oX;have HBI:=aa (QkV sb s1 (.slice oa j c) fl wr eY.out wE (HF.out.ran oX) (HB.out.mono (by rw [JC,Il];omega) (by rw [JC,Il];omega) (by rw [Vy];omega)) (by rw [<- HN.out];omega) (fun f hf=>(HP.out f hf).1));clear wE oX hf2 l0 c0;go_wp2_with fail;refine HBI.out.mono ?_;rintro _ w3 ⟨ev,k,m,s2,rfl,hv,hg2,hst⟩;dsimp only;have hg3:=cQ.out.trans hg2;have mV:=Qv.out.go eY.out.ay hg2;have gq:=aa hg3;have mW:=aa mV;have EX:bM s.ds (jq fl) k (j+m) s2.ds:=VI.out.app hst;have rN:=aa EX;have e3:w3.cell? ⟨ge,0,none⟩=some .nilIface:=cell_of_row _ _ 0 _ _ _ mV.e;have ef:w3.frozen? ⟨ge,0,none⟩=false:=frozen_of_row _ _ 0 _ _ mV.e;clear hg2 hst hg3 mV EX g0
   rcases hv with ⟨bu,rfl⟩|⟨bu,sv,nm,rfl,iY⟩
   ·have HK:=aa bu;clear bu;go_wp2_with fail;have hg4:=gq.out.fX (v:=.nilIface) (i:=0) Da.out.1 mW.out.e (by decide) (by decide) (by decide) (by decide);have mX:=mW.out.wF .nilIface;have c5:=cell_of_row _ _ 0 _ _ _ mX.e;refine leaves_cons (f:=187) (args:=#[.pointer (some ⟨ge,0,none⟩),.pointer (some ⟨gs,0,none⟩),.pointer (some ⟨gl,0,none⟩)]) (by simp) (by simp [go_sem]) ?_;refine (Qpq ge gs gl _ _ c5).mono ?_;rintro e u' w5 ⟨rfl,rfl,rfl⟩;refine ⟨.nilIface,?_,_,k,s2,rfl,.inl ⟨HK.out,rfl⟩,hg4,j+m,s2.ds,rN.out,.inl ⟨HK.out,rfl⟩⟩;have c6:(w3.setCell ⟨ge,0,none⟩ Value.nilIface).cell? ⟨ge,0,none⟩=some .nilIface:=c5;simp [results,Tryz.results138,go_sem,c6]
   ·have HE:=aa iY;have HK:=aa bu;clear iY bu;go_wp2_with fail;have hg4:=gq.out.fX (v:=.iface 165 (.pointer (some ⟨sv,0,none⟩))) (i:=0) Da.out.1 mW.out.e (by decide) (by decide) (by decide) (by decide);have mX:=mW.out.wF (.iface 165 (.pointer (some ⟨sv,0,none⟩)));have EX:=rN.out;refine leaves_cons (f:=187) (args:=#[.pointer (some ⟨ge,0,none⟩),.pointer (some ⟨gs,0,none⟩),.pointer (some ⟨gl,0,none⟩)]) (by simp) (by simp [go_sem]) ?_;refine (QhZ ge gs gl sb j s2 sv _ _ (cell_of_row _ _ 0 _ _ _ mX.e) (cell_of_row _ _ 0 _ _ _ mX.s) (cell_of_row _ _ 0 _ _ _ mX.l) (H.out.go hg4) (HF.out.ran EX) (HB.out.mono (by rw [<- HN.out];omega) (by rw [<- HN.out];omega) (Nat.le_refl _)) (by omega)).mono ?_;rintro e u' w5 ⟨rfl,rfl,s5,h5,h6⟩;have Ir:=mX.go hg4.ay h5;have c5:w5.cell? ⟨ge,0,none⟩=some (.iface 165 (.pointer (some ⟨sv,0,none⟩))):=cell_of_row _ _ 0 _ _ _ Ir.e;have Iu:w5.heap[sv]? = some (.cells #[.string nm,eI k] 167 (0,0)):=h5.keeps hg4.ay ((heap_setCell_other _ _ _ _ (by simpa using ja HE.out mW.out.e (by decide))).trans HE.out) (by decide) (by decide) (by decide) (by decide);refine ⟨.iface 165 (.pointer (some ⟨sv,0,none⟩)),?_,_,k,s5,rfl,.inr ⟨HK.out,sv,nm,rfl,Iu⟩,hg4.trans h5,j+m,s2.ds,EX,.inr ⟨HK.out,by rw [<- HN.out,Nat.min_eq_right (by omega)];exact h6⟩⟩;simp [results,Tryz.results138,go_sem,c5]
open Go.RowKit
theorem QvL (s:ai) (n:Int) (w:World) (h:s.In w) :
  Calls Tryz.prog 135 #[.pointer (some ⟨s.b,0,none⟩),.int .i64 n] w fun e w'=>∃ v k,e = .returned v/\bR w' v k/\(k=0 ↔ n<=s.R.room)/\aC s s w w':=by
 have c0:w.cell? ⟨s.b,0,none⟩=some (.int .i64 s.R.room):=cell_of_row _ _ 0 _ _ _ h.is.blk;have H:=aa h;clear h
 by_cases hn:s.R.room<n
 ·have key:Calls Tryz.prog 135 #[.pointer (some ⟨s.b,0,none⟩),.int .i64 n] w fun e w'=>∃ v,e = .returned v/\o7 w' v 4/\Below w.heap.size w w':=by
   have aV:o7 (w.alloc (.cells #[.string ⟨#[70,105,116]⟩,.iface 161 (.int .i64 4)] 167)) (.iface 165 (.pointer (some ⟨w.heap.size,0,none⟩))) 4:=⟨_,_,rfl,heap_alloc_new _ _⟩;have bG:=aa aV;have hd:decide (s.R.room<n)=true:=decide_eq_true hn;clear aV;go_enter Tryz.func135,Tryz.ntmps135;go_wp2_with fail;go_ret;exact ⟨_,rfl,bG.out,(Below.refl _ _).alloc (Nat.le_refl _) _⟩
  refine key.mono ?_;rintro e w' ⟨v,rfl,h1,h2⟩;exact ⟨v,4,rfl,.inr ⟨by decide,h1⟩,⟨fun h=>absurd h (by decide),fun h=>absurd hn (by omega)⟩,aC.refl H.out h2⟩
 ·have key:Calls Tryz.prog 135 #[.pointer (some ⟨s.b,0,none⟩),.int .i64 n] w fun e w'=>e = .returned .nilIface/\w'=w:=by
   have hd:decide (s.R.room<n)=false:=decide_eq_false hn;go_enter Tryz.func135,Tryz.ntmps135;go_wp2_with fail;go_ret;exact ⟨rfl,rfl⟩
  refine key.mono ?_;rintro e w' ⟨rfl,rfl⟩;exact ⟨_,0,rfl,.inl ⟨rfl,rfl⟩,⟨fun _=>by omega,fun _=>rfl⟩,aC.refl H.out (Below.refl _ _)⟩
theorem Qm7 (p:ByteArray) (w:World):Calls Tryz.prog 137 #[.string p] w fun e w'=>e = .returned (.bool true)/\w'=w:=by
 go_enter Tryz.func137,Tryz.ntmps137;go_wp2_with fail;go_ret;exact ⟨rfl,rfl⟩
end Go.Proofs.YtncigfibncmioaaGreatDoor
