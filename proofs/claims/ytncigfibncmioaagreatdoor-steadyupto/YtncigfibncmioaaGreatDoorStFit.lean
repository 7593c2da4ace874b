/-
  PROVED HERE: the paths of a store's files: of a content, of a file that is laid beside the store; and which content a path speaks of.
-/
import Derived.Test.YtncigfibncmioaaGreatDoorStTxt
import Derived.Test.YtncigfibncmioaaGreatDoorBuilt
import Derived.Test.YtncigfibncmioaaGreatDoorStRun
import Derived.Test.YtncigfibncmioaaGreatDoorHash
import Derived.Defers
namespace Go.Proofs.YtncigfibncmioaaGreatDoor
set_option maxHeartbeats 1000000
set_option maxRecDepth 100000
open Go.RowKit
def blobsL:List UInt8:=[98,108,111,98,115,47]
def besideL:List UInt8:=[98,101,115,105,100,101,47]
def cPath (ds:List Nat):ByteArray:=⟨(blobsL++Sha.textTo ds 32).toArray⟩
def bPath (i:Nat):ByteArray:=⟨(besideL++Lib.itoa (i:Int)).toArray⟩
theorem ba_app (a b:List UInt8):(⟨a.toArray⟩ : ByteArray)++⟨b.toArray⟩=⟨(a++b).toArray⟩:=by
 apply ByteArray.ext
 rw [ByteArray.data_append]
 simp
theorem contentPath_any (ds:List Nat) (w:World) (hlen:ds.length=32) (hlt:∀ i,ds.getD i 0<256) :
  Calls Tryz.prog 107 #[.agg (cells8 ds)] w fun e w'=>e = .returned (.string (cPath ds))∧Below w.heap.size w w':=by
 have HT:=hide (fun w=>text_any ds w hlen hlt)
 obtain ⟨t,ht⟩ : ∃ t:ByteArray,t=⟨(Sha.textTo ds 32).toArray⟩:=⟨_,rfl⟩
 rw [← ht] at HT
 have hts:¬ 9223372036854775807<6+t.size:=by
  have h1:t.size=(Sha.textTo ds 32).length:=by rw [ht];simp [ByteArray.size]
  rw [h1,Sha.textTo_len]
  omega
 have HE:=hide ht
 clear hlt ht
 go_enter Tryz.func107,Tryz.ntmps107
 go_wp2_with (first|(refine wpList_load_row rfl 117 _ rfl w.heap.size rfl 117 _ _ _ (heap_alloc_new _ _) Tryz.underlying117 rfl (size40 _ hlen) ?_)|(go_at_call 66;refine (HT.out _).mono ?_;rintro _ w1 ⟨rfl,hb1⟩))
 go_ret
 refine ⟨?_,(Below.trans ((Below.refl _ _).alloc (Nat.le_refl _) _) (hb1.mono (by simp)))⟩
 rw [HE.out,show (⟨#[98,108,111,98,115,47]⟩ : ByteArray)=⟨blobsL.toArray⟩ from rfl,ba_app]
 rfl
theorem besidePath_any (i:Nat) (hi:i≤300) (w:World) (htab:Lib.TabIs Tryz.prog w "internal/strconv.uint64pow10" .u64 Lib.pow10Tab) :
  Calls Tryz.prog 139 #[.int .i64 ((i:Nat):Int)] w fun e w'=>e = .returned (.string (bPath i))∧Below w.heap.size w w':=by
 have HI:=hide (itoa_any ((i:Nat):Int) (by omega) (by omega) w htab)
 obtain ⟨t,ht⟩ : ∃ t:ByteArray,t=⟨(Lib.itoa ((i:Nat):Int)).toArray⟩:=⟨_,rfl⟩
 rw [← ht] at HI
 have hts:¬ 9223372036854775807<7+t.size:=by
  have h1:t.size=(Lib.itoa ((i:Nat):Int)).length:=by rw [ht];simp [ByteArray.size]
  have h2:=Lib.itoa_length_le ((i:Nat):Int) (by omega) (by omega)
  omega
 have HE:=hide ht
 clear ht htab
 go_enter Tryz.func139,Tryz.ntmps139
 go_wp2_with (go_at_call 131;refine (HI.out).mono ?_;rintro _ w1 ⟨rfl,hb1⟩)
 go_ret
 refine ⟨?_,hb1⟩
 rw [HE.out,show (⟨#[98,101,115,105,100,101,47]⟩ : ByteArray)=⟨besideL.toArray⟩ from rfl,ba_app]
 rfl
def hasPre (s p:ByteArray):Bool:=decide (p.size≤s.size) && decide (s.extract 0 p.size=p)
theorem hasPrefix_any (s p:ByteArray) (w:World) :
  Calls Tryz.prog 281 #[.string s,.string p] w fun e w'=>e = .returned (.bool (hasPre s p))∧w'=w:=by
 unfold hasPre
 by_cases h:p.size≤s.size
 ·go_enter Tryz.func281,Tryz.ntmps281
  go_wp2_with fail
  go_ret
  refine ⟨?_,rfl⟩
  have e:((s.extract 0 p.size).toList == p.toList)=decide (s.extract 0 p.size=p):=by
   rw [Bool.eq_iff_iff]
   simp [toList_inj]
  rw [e,decide_eq_true h,Bool.true_and]
  rfl
 ·have h2:decide (((p.size:Nat):Int)≤((s.size:Nat):Int))=false:=decide_eq_false (by omega)
  go_enter Tryz.func281,Tryz.ntmps281
  go_wp2_with fail
  go_ret
  exact ⟨by rw [decide_eq_false h,Bool.false_and];rfl,rfl⟩
def cutPre (s p:ByteArray):ByteArray:=if hasPre s p then s.extract p.size s.size else s
theorem cutPrefix0_any (s p:ByteArray) (w:World) :
  Calls Tryz.prog 253 #[.string s,.string p] w fun e w'=>e = .returned (.tuple #[.string (cutPre s p),.bool (hasPre s p)])∧w'=w:=by
 have HH:=hide (hasPrefix_any s p w)
 unfold cutPre
 cases hb:hasPre s p with
 | false =>
  rw [hb] at HH
  clear hb
  go_enter Tryz.func253,Tryz.ntmps253
  go_wp2_with (go_at_call 281;refine (HH.out).mono ?_;rintro _ _ ⟨rfl,rfl⟩)
  refine bodyPost_ret (results_tmp2 rfl _ _ _) rfl ?_
  exact ⟨rfl,rfl⟩
 | true =>
  have hle:p.size≤s.size:=by
   unfold hasPre at hb
   simp only [Bool.and_eq_true,decide_eq_true_eq] at hb
   exact hb.1
  rw [hb] at HH
  clear hb
  go_enter Tryz.func253,Tryz.ntmps253
  go_wp2_with (go_at_call 281;refine (HH.out).mono ?_;rintro _ _ ⟨rfl,rfl⟩)
  refine bodyPost_ret (results_tmp2 rfl _ _ _) rfl ?_
  exact ⟨rfl,rfl⟩
theorem cutPrefix_any (s p:ByteArray) (w:World) :
  Calls Tryz.prog 230 #[.string s,.string p] w fun e w'=>e = .returned (.tuple #[.string (cutPre s p),.bool (hasPre s p)])∧w'=w:=by
 have HH:=hide (cutPrefix0_any s p w)
 go_enter Tryz.func230,Tryz.ntmps230
 go_wp2_with (go_at_call 253;refine (HH.out).mono ?_;rintro _ _ ⟨rfl,rfl⟩)
 refine bodyPost_ret (results_tmp2 rfl _ _ _) rfl ?_
 exact ⟨rfl,rfl⟩
def blobsP:ByteArray:=⟨#[98,108,111,98,115,47]⟩
def dgB (p:ByteArray):Bool:=hasPre p blobsP && isDigB (cutPre p blobsP)
def dgV (p:ByteArray):List Nat:=if hasPre p blobsP then rd (cutPre p blobsP) else Sha.zeros 32
theorem dgV_len (p:ByteArray):(dgV p).length=32:=by
 unfold dgV
 split
 ·exact rd_len _
 ·exact Sha.zeros_len _
theorem digestAt_any (p:ByteArray) (w:World) :
  Calls Tryz.prog 191 #[.string p] w fun e w'=>e = .returned (.tuple #[.agg (cells8 (dgV p)),.bool (dgB p)])∧Below w.heap.size w w':=by
 have hz4:=(zero_of_info Tryz.info117).1
 have HC:=hide (fun w=>cutPrefix_any p blobsP w)
 unfold dgV dgB
 cases hb:hasPre p blobsP with
 | false =>
  rw [hb] at HC
  clear hb
  go_enter Tryz.func191,Tryz.ntmps191
  go_wp2_with (first|(go_at_call 230;refine (HC.out _).mono ?_;rintro _ _ ⟨rfl,rfl⟩)|(refine wpList_store_row rfl 117 _ _ rfl w.heap.size _ rfl rfl 117 _ (heap_alloc_new _ _) (size40 _ (Sha.zeros_len _)) rfl (cells8_one _) ?_;rw [World.setRow_alloc_new]))
  exact bodyPost_ret (results_cell_tmp Tryz.results191 _ _ w.heap.size 117 _ (0,0) _ (.bool false) rfl rfl (heap_alloc_new _ _) Tryz.underlying117 rfl (size40 _ (Sha.zeros_len _))) rfl ⟨rfl,(Below.refl _ _).alloc (Nat.le_refl _) _⟩
 | true =>
  rw [hb] at HC
  clear hb
  generalize cutPre p blobsP=t at HC ⊢
  have HR:=hide (fun w=>read_any t w)
  have hrl:=rd_len t
  generalize rd t=ds at HR hrl ⊢
  generalize isDigB t=db at HR ⊢
  go_enter Tryz.func191,Tryz.ntmps191
  go_wp2_with (first|(go_at_call 230;refine (HC.out _).mono ?_;rintro _ _ ⟨rfl,rfl⟩)|(go_at_call 109;refine (HR.out _).mono ?_;rintro _ w1 ⟨rfl,hb1⟩;have hr1:=(hb1.block w.heap.size (by simp)).trans (heap_alloc_new _ _))|(refine wpList_store_row rfl 117 _ _ rfl w.heap.size _ rfl rfl 117 _ hr1 (size40 _ hrl) (by rw [cells8_size,cells8_size,hrl,Sha.zeros_len]) (cells8_one _) ?_))
  exact bodyPost_ret (results_cell_tmp Tryz.results191 _ _ w.heap.size 117 _ (0,0) _ (.bool db) rfl rfl (setRow_heap _ _ _ _ _ _ hr1) Tryz.underlying117 rfl (size40 _ hrl)) rfl ⟨rfl,(((Below.refl _ _).alloc (Nat.le_refl _) _).trans (hb1.mono (by simp))).setRow (Nat.le_refl _) _⟩
def layoutP:ByteArray:=⟨#[108,97,121,111,117,116]⟩
def indexP:ByteArray:=⟨#[105,110,100,101,120]⟩
def journalP:ByteArray:=⟨#[106,111,117,114,110,97,108]⟩
def pruningP:ByteArray:=⟨#[112,114,117,110,105,110,103]⟩
def foreignB (p:ByteArray):Bool:=!dgB p && decide (p≠layoutP) && decide (p≠indexP) && decide (p≠journalP)
theorem eq_bytes (a b:ByteArray):decide (a≠b) = !(a.toList == b.toList):=by
 rw [Bool.eq_iff_iff]
 simp [toList_inj]
theorem layoutL:layoutP.toList = [108,97,121,111,117,116]:=by rw [ByteArray.toList_eq];rfl
theorem indexL:indexP.toList = [105,110,100,101,120]:=by rw [ByteArray.toList_eq];rfl
theorem journalL:journalP.toList = [106,111,117,114,110,97,108]:=by rw [ByteArray.toList_eq];rfl
theorem isForeign_any (p:ByteArray) (w:World) :
  Calls Tryz.prog 141 #[.string p] w fun e w'=>e = .returned (.bool (foreignB p))∧Below w.heap.size w w':=by
 have hz4:=(zero_of_info Tryz.info117).1
 have HD:=hide (fun w=>digestAt_any p w)
 have hdl:=dgV_len p
 unfold foreignB
 generalize dgV p=ds at HD hdl
 generalize dgB p=db at HD ⊢
 rw [eq_bytes,eq_bytes,eq_bytes,layoutL,indexL,journalL]
 cases db with
 | true =>
  go_enter Tryz.func141,Tryz.ntmps141
  go_wp2_with (first|(go_at_call 191;refine (HD.out _).mono ?_;rintro _ w1 ⟨rfl,hb1⟩)|(refine wpList_store_row rfl 117 _ _ rfl w1.heap.size _ rfl rfl 117 _ (heap_alloc_new _ _) (size40 _ hdl) (by rw [cells8_size,cells8_size,hdl,Sha.zeros_len]) (cells8_one _) ?_;rw [World.setRow_alloc_new]))
  go_ret
  exact ⟨rfl,hb1.trans ((Below.refl _ _).alloc hb1.size _)⟩
 | false =>
  cases m1:(p.toList == [108,97,121,111,117,116]) with
  | true =>
   go_enter Tryz.func141,Tryz.ntmps141
   go_wp2_with (first|(go_at_call 191;refine (HD.out _).mono ?_;rintro _ w1 ⟨rfl,hb1⟩)|(refine wpList_store_row rfl 117 _ _ rfl w1.heap.size _ rfl rfl 117 _ (heap_alloc_new _ _) (size40 _ hdl) (by rw [cells8_size,cells8_size,hdl,Sha.zeros_len]) (cells8_one _) ?_;rw [World.setRow_alloc_new]))
   go_ret
   exact ⟨rfl,hb1.trans ((Below.refl _ _).alloc hb1.size _)⟩
  | false =>
   cases m2:(p.toList == [105,110,100,101,120]) with
   | true =>
    go_enter Tryz.func141,Tryz.ntmps141
    go_wp2_with (first|(go_at_call 191;refine (HD.out _).mono ?_;rintro _ w1 ⟨rfl,hb1⟩)|(refine wpList_store_row rfl 117 _ _ rfl w1.heap.size _ rfl rfl 117 _ (heap_alloc_new _ _) (size40 _ hdl) (by rw [cells8_size,cells8_size,hdl,Sha.zeros_len]) (cells8_one _) ?_;rw [World.setRow_alloc_new]))
    go_ret
    exact ⟨rfl,hb1.trans ((Below.refl _ _).alloc hb1.size _)⟩
   | false =>
    cases m3:(p.toList == [106,111,117,114,110,97,108]) with
    | true =>
     go_enter Tryz.func141,Tryz.ntmps141
     go_wp2_with (first|(go_at_call 191;refine (HD.out _).mono ?_;rintro _ w1 ⟨rfl,hb1⟩)|(refine wpList_store_row rfl 117 _ _ rfl w1.heap.size _ rfl rfl 117 _ (heap_alloc_new _ _) (size40 _ hdl) (by rw [cells8_size,cells8_size,hdl,Sha.zeros_len]) (cells8_one _) ?_;rw [World.setRow_alloc_new]))
     go_ret
     exact ⟨rfl,hb1.trans ((Below.refl _ _).alloc hb1.size _)⟩
    | false =>
     go_enter Tryz.func141,Tryz.ntmps141
     go_wp2_with (first|(go_at_call 191;refine (HD.out _).mono ?_;rintro _ w1 ⟨rfl,hb1⟩)|(refine wpList_store_row rfl 117 _ _ rfl w1.heap.size _ rfl rfl 117 _ (heap_alloc_new _ _) (size40 _ hdl) (by rw [cells8_size,cells8_size,hdl,Sha.zeros_len]) (cells8_one _) ?_;rw [World.setRow_alloc_new]))
     go_ret
     exact ⟨rfl,hb1.trans ((Below.refl _ _).alloc hb1.size _)⟩
def SB (w:World) (sb b:Nat):Prop:=∃ cv tv,w.heap[sb]? = some (.cells #[.pointer (some ⟨b,0,none⟩),cv,tv] 159 (0,0))
theorem SB.later {w w':World} {sb b:Nat} (h:SB w sb b) (hb:Below w.heap.size w w'):SB w' sb b:=by
 obtain ⟨cv,tv,h⟩:=h
 exact ⟨cv,tv,(hb.block _ (lt_of_row h)).trans h⟩
theorem SB.go {w w':World} {sb:Nat} {s s':PSt} (h:SB w sb s.b) (hi:s.In w) (hg:PGo s s' w w'):SB w' sb s'.b:=by
 obtain ⟨cv,tv,h⟩:=h
 rw [hg.b]
 exact ⟨cv,tv,hg.keeps hi h (by decide) (by decide) (by decide) (by decide)⟩
theorem isThere_any (sb:Nat) (s:PSt) (p:ByteArray) (w:World) (hb:SB w sb s.b) (h:s.In w) (hp:p.size≤9223372036854775807) :
  Calls Tryz.prog 93 #[.pointer (some ⟨sb,0,none⟩),.string p] w fun e w'=>e = .returned (.bool (rdD s.ds p).isSome)∧PGo s s w w':=by
 obtain ⟨cv,tv,hbl⟩:=hb
 have c0:w.cell? ⟨sb,0,none⟩=some (.pointer (some ⟨s.b,0,none⟩)):=cell_of_row _ _ 0 _ _ _ hbl
 have HR:=hide (dkRead s p w h hp)
 clear hbl h
 go_enter Tryz.func93,Tryz.ntmps93
 go_wp2_with fail
 refine HR.out.mono ?_
 rintro _ w1 ⟨v,k,rfl,hv,hk,hg,hi⟩
 dsimp only
 have hgo:PGo s s w w1:=⟨rfl,hi,hg,fun _ hk=>.inl hk⟩
 have HGO:=hide hgo
 clear hgo hg hi c0
 rcases hv with ⟨h0,rfl⟩|⟨h0,sv,nm,rfl, -⟩
 ·have HS:=hide (hk.1 h0)
  clear hk
  go_wp2_with fail
  go_ret
  exact ⟨by rw [HS.out];rfl,HGO.out⟩
 ·have hs:(rdD s.ds p).isSome=false:=by
   cases hq:(rdD s.ds p).isSome with
   | false=>rfl
   | true=>exact absurd (hk.2 hq) h0
  have HS:=hide hs
  clear hk hs
  go_wp2_with fail
  go_ret
  exact ⟨by rw [HS.out];rfl,HGO.out⟩
end Go.Proofs.YtncigfibncmioaaGreatDoor
namespace Go.Proofs.YtncigfibncmioaaGreatDoor
open Go.RowKit
def isG (k:Nat):Prop:=k=3∨k=1∨k=0
structure Gl (w:World):Prop where
 tab:Lib.TabIs Tryz.prog w "internal/strconv.uint64pow10" .u64 Lib.pow10Tab
 hk:HasK w
 err:w.cell? ⟨0,0,none⟩=some errT
theorem Gl.lt {w:World} (h:Gl w) {k:Nat} (hk:isG k):k<w.heap.size:=by
 rcases hk with rfl|rfl|rfl
 ·exact tab_lt gPow h.tab
 ·exact h.hk.1
 ·exact World.block_lt_of_cell? _ _ h.err
theorem Gl.same {w w':World} (h:Gl w) (hsz:w.heap.size≤w'.heap.size) (hs:∀ k,isG k→w'.heap[k]? = w.heap[k]?):Gl w':=by
 refine ⟨?_,⟨Nat.lt_of_lt_of_le h.hk.1 hsz,fun i hi=>?_⟩,?_⟩
 ·have h1:=h.tab
  unfold Lib.TabIs World.var? at h1 ⊢
  rw [gPow] at h1 ⊢
  simp only [Option.bind_some] at h1 ⊢
  rw [hs _ (.inl rfl)]
  exact h1
 ·exact (World.cell?_of_block (a:=⟨1,i,none⟩) (hs _ (.inr (.inl rfl)))).trans (h.hk.2 i hi)
 ·exact (World.cell?_of_block (a:=⟨0,0,none⟩) (hs _ (.inr (.inr rfl)))).trans h.err
theorem Gl.later {w w':World} (h:Gl w) (hb:Below w.heap.size w w'):Gl w':=h.same hb.size (fun k hk=>hb.block k (h.lt hk))
def LowS (s:PSt):Prop:=∀ k,s.own k→¬ isG k
theorem Gl.go {w w':World} {s s':PSt} (h:Gl w) (hl:LowS s) (hg:PGo s s' w w'):Gl w'∧LowS s' :=
 ⟨h.same hg.gr.size (fun k hk=>hg.gr.block k (h.lt hk) (fun ho=>hl k ho hk)),fun k hk hG=>(hg.own k hk).elim (fun ho=>hl k ho hG) (fun hge=>by have:=h.lt hG;omega)⟩
def f0:ByteArray × ByteArray:=(⟨#[]⟩,⟨#[]⟩)
def FlAt (w:World) (v:Value) (fl:List (ByteArray × ByteArray)):Prop:=∃ oa c,v = .slice oa fl.length c∧∀ i,i<fl.length→∃ g cur fr,oa=some ⟨g,0,none⟩∧w.heap[g]? = some (.cells cur 222 fr)∧w.cell? ⟨g,i * 2,none⟩=some (.string (fl.getD i f0).1)∧w.cell? ⟨g,i * 2+1,none⟩=some (.string (fl.getD i f0).2)
theorem FlAt.same {w w':World} {v:Value} {fl:List (ByteArray × ByteArray)} (h:FlAt w v fl) (hs:∀ (g:Nat) (cur:Array Value) (fr:Nat × Nat),w.heap[g]? = some (.cells cur 222 fr)→w'.heap[g]? = w.heap[g]?):FlAt w' v fl:=by
 obtain ⟨oa,c,rfl,hk⟩:=h
 refine ⟨oa,c,rfl,fun i hi=>?_⟩
 obtain ⟨g,cur,fr,h1,h2,h3,h4⟩:=hk i hi
 have hb:=hs g cur fr h2
 exact ⟨g,cur,fr,h1,hb.trans h2,(World.cell?_of_block (a:=⟨g,i * 2,none⟩) hb).trans h3,(World.cell?_of_block (a:=⟨g,i * 2+1,none⟩) hb).trans h4⟩
theorem FlAt.go {w w':World} {v:Value} {fl:List (ByteArray × ByteArray)} {s s':PSt} (h:FlAt w v fl) (hi:s.In w) (hg:PGo s s' w w'):FlAt w' v fl :=
 h.same (fun g _ _ hc=>(hg.keeps hi hc (by decide) (by decide) (by decide) (by decide)).trans hc.symm)
structure On (w:World) (sb:Nat) (s:PSt):Prop where
 sb:SB w sb s.b
 inn:s.In w
 gl:Gl w
 low:LowS s
theorem On.later {w w':World} {sb:Nat} {s:PSt} (h:On w sb s) (hb:Below w.heap.size w w'):On w' sb s:=⟨h.sb.later hb,h.inn.later hb,h.gl.later hb,h.low⟩
theorem On.go {w w':World} {sb:Nat} {s s':PSt} (h:On w sb s) (hg:PGo s s' w w'):On w' sb s':=⟨h.sb.go h.inn hg,hg.inn,(h.gl.go h.low hg).1,(h.gl.go h.low hg).2⟩
def tbL (n j:Nat):List Stp:=(List.range j).map fun t=>sRm (bPath (n - 1 - t))
theorem tbL_succ (n j:Nat):tbL n (j+1)=tbL n j ++ [sRm (bPath (n - 1 - j))]:=by
 unfold tbL
 rw [List.range_succ,List.map_append]
 rfl
def tbS (n:Nat):List Stp:=if n=0 then [] else tbL n n ++ [sSd]
theorem bPath_size (i:Nat) (hi:i≤300):(bPath i).size≤30:=by
 have h2:=Lib.itoa_length_le ((i:Nat):Int) (by omega) (by omega)
 have h1:(bPath i).size=(besideL++Lib.itoa (i:Int)).length:=by simp [bPath,ByteArray.size]
 rw [h1,List.length_append,show besideL.length=7 from rfl]
 omega
end Go.Proofs.YtncigfibncmioaaGreatDoor
namespace Go.Proofs.YtncigfibncmioaaGreatDoor
set_option maxHeartbeats 2000000
set_option maxRecDepth 100000
open Go.RowKit
theorem szs_tbL (n j:Nat):szs (tbL n j)=0:=by
 induction j with
 | zero=>rfl
 | succ j ih =>
  rw [tbL_succ]
  unfold szs at ih ⊢
  rw [List.map_append,List.sum_append,ih]
  rfl
theorem tbL_len (n j:Nat):(tbL n j).length=j:=by simp [tbL]
theorem dk_rm {s:PSt} {w:World} {p:ByteArray} {L C B:Nat} (h:s.In w) (hf:DFit s.ds L C B) (hb:Bud L C B) (hp:p.size≤9223372036854775807) :
  Calls Tryz.prog 117 #[.pointer (some ⟨s.b,0,none⟩),.string p] w (DRs s w fun k D'=>stR s.ds (sRm p) k D'):=dkRemove s p w h hf hb hp
theorem takeBack_any (sb:Nat) (s:PSt) (n:Nat) (w:World) {L C B:Nat} (h:On w sb s) (hf:DFit s.ds L C B) (hb:Bud (L+n+1) (C+n+1) B) (hn:n≤300) :
  Calls Tryz.prog 188 #[.pointer (some ⟨sb,0,none⟩),.int .i64 ((n:Nat):Int)] w fun e w'=>e = .returned (.tuple #[])∧∃ s',PGo s s' w w'∧RanI s.ds (tbS n) s'.ds:=by
 have H:=hide h
 have HF:=hide hf
 have HB:=hide hb
 clear h hf hb
 by_cases hn0:n=0
 ·subst hn0
  go_enter Tryz.func188,Tryz.ntmps188
  go_wp2_with fail
  refine bodyPost_ret (results_none rfl _ _ _) rfl ?_
  exact ⟨rfl,s,PGo.refl H.out.inn (Below.refl _ _),rfl⟩
 ·have hz:(((n:Nat):Int) == 0)=false:=by simp;omega
  have hz2:¬ ((n:Nat):Int)=0:=by omega
  go_enter Tryz.func188,Tryz.ntmps188
  go_wp2_with fail
  go_loopw [4] (fun iv wr=>∃ (j:Nat) (s1:PSt),j≤n∧iv = .int .i64 ((n:Int) - 1 - (j:Int))∧PGo s s1 w wr∧RanI s.ds (tbL n j) s1.ds) (fun iv _=>(intOf iv+1).toNat)
  case atStart=>exact ⟨0,s,Nat.zero_le _,by simp,PGo.refl H.out.inn (Below.refl _ _),rfl⟩
  case round =>
   obtain ⟨j,s1,hj,rfl,hgo,hr⟩:=hrel
   have hon:=H.out.go hgo
   have HON:=hide hon
   have HGO:=hide hgo
   have HR:=hide hr
   have hf1:=HF.out.ranI hr
   rw [tbL_len,szs_tbL] at hf1
   have HF1:=hide hf1
   obtain ⟨cv,tv,hbl⟩:=hon.sb
   have c0:wr.cell? ⟨sb,0,none⟩=some (.pointer (some ⟨s1.b,0,none⟩)):=cell_of_row _ _ 0 _ _ _ hbl
   clear hon hgo hr hf1 hbl
   by_cases hlt:j<n
   ·obtain ⟨m,hm⟩ : ∃ m:Nat,(n:Int) - 1 - (j:Int)=(m:Int):=⟨n - 1 - j,by omega⟩
    have hm2:m=n - 1 - j:=by omega
    rw [hm]
    have d1:decide ((0:Int)≤((m:Nat):Int))=true:=decide_eq_true (by omega)
    have hps:=bPath_size m (by omega)
    have HP:=hide (besidePath_any m (by omega) wr.drew (HON.out.later (Below.refl _ _).drew).gl.tab)
    have HRM:=hide (fun (w':World) (hb':Below wr.heap.size wr w')=>dk_rm (p:=bPath m) (HON.out.inn.later hb') HF1.out (HB.out.mono (by omega) (by omega) (by omega)) (by omega))
    have HM2:=hide hm2
    have HM:=hide hm
    clear hm2 hm hps
    go_wp2_with fail
    go_region_with (first|(go_at_call 139;refine (HP.out).mono ?_;rintro _ w2 ⟨rfl,hb2⟩;have hb3:Below wr.heap.size wr w2:=((Below.refl wr.heap.size wr).drew).trans hb2;have c1:=cell_later hb3 c0)|(go_at_call 117;refine (HRM.out _ hb3).mono ?_;rintro _ w3 ⟨v,k,s2,rfl,hv,hg2,hst⟩))
    all_goals
     have HG2:=hide (HGO.out.trans ((PGo.refl HON.out.inn hb3).trans hg2))
     have HST:=hide hst
     clear hg2 hst hv hb2 hb3 c0 c1 HP HRM
     go_wp2_with fail
     have hw:Go.RowKit.wrap64 (((m:Nat):Int) - 1)=((m:Nat):Int) - 1:=by unfold Go.RowKit.wrap64;have:=HM.out;omega
     rw [hw]
     refine ⟨⟨j+1,s2,hlt,?_,HG2.out,?_⟩,?_⟩
     ·congr 1
      have:=HM.out
      omega
     ·rw [tbL_succ,← HM2.out]
      exact HR.out.snoc HST.out
     ·simp only [intOf]
      omega
   ·have hjn:j=n:=by omega
    subst hjn
    have d1:decide ((0:Int)≤(j:Int) - 1 - (j:Int))=false:=decide_eq_false (by omega)
    have HSD:=hide (dkSyncDir s1 wr HON.out.inn HF1.out (HB.out.mono (by omega) (by omega) (by omega)))
    go_wp2_with fail
    refine HSD.out.mono ?_
    rintro _ w3 ⟨v,k,s2,rfl,hv,hg2,hst⟩
    dsimp only
    have HG2:=hide (HGO.out.trans hg2)
    have HST:=hide hst
    clear hg2 hst hv c0
    go_wp2_with fail
    go_end0
    refine ⟨rfl,s2,HG2.out,?_⟩
    unfold tbS
    rw [if_neg hn0]
    exact HR.out.snoc (t:=sSd) HST.out
set_option maxHeartbeats 4000000
set_option maxRecDepth 100000
open Go.RowKit
theorem ran_next {S:List Stp} {D D1 D2:DS} {i m:Nat} {t:Stp} {k:Int} (h:Ran D (S.take i) 0 m D1) (ht:S[i]? = some t) (hs:stR D1 t k D2):(k=0→Ran D (S.take (i+1)) 0 (m+1) D2)∧(k≠0→∃ n,Ran D S k n D2):=by
 have hi:i<S.length:=(List.getElem?_eq_some_iff.1 ht).1
 have e1:S.take (i+1)=S.take i ++ [t]:=by
  rw [List.take_succ_eq_append_getElem hi]
  rw [List.getElem?_eq_getElem hi] at ht
  rw [Option.some.inj ht]
 have h1:=h.app (Ran.one hs)
 constructor
 ·intro hk
  rw [e1]
  rw [if_pos hk,hk] at h1
  exact h1
 ·intro hk
  have h2:=h1.stop (S.drop (i+1)) hk
  rw [← e1,List.take_append_drop] at h2
  exact ⟨_,h2⟩
theorem szs_take (S:List Stp):∀ i,szs (S.take i)≤szs S:=by
 induction S with
 | nil=>intro i;simp [szs]
 | cons t S ih =>
  intro i
  cases i with
  | zero=>simp [szs]
  | succ i =>
   have:=ih i
   unfold szs at this ⊢
   simp only [List.take_succ_cons,List.map_cons,List.sum_cons]
   omega
theorem DFit.take {S:List Stp} {D D1:DS} {L C B i m:Nat} {k:Int} (h:DFit D L C B) (hr:Ran D (S.take i) k m D1):DFit D1 (L+S.length) (C+S.length) (B+szs S) :=
 (h.ran hr).mono (by rw [List.length_take];omega) (by rw [List.length_take];omega) (by have:=szs_take S i;omega)
def biS (fl:List (ByteArray × ByteArray)):List Stp:=(List.range fl.length).map (fun t=>sSy (bPath t))++((List.range fl.length).map (fun t=>sRn (bPath t) (fl.getD t f0).1) ++ [sSd])
theorem biS_len (fl:List (ByteArray × ByteArray)):(biS fl).length=fl.length+(fl.length+1):=by simp [biS]
theorem biS_sy (fl:List (ByteArray × ByteArray)) (j:Nat) (hj:j<fl.length):(biS fl)[j]? = some (sSy (bPath j)):=by
 unfold biS
 rw [List.getElem?_append_left (by simpa using hj)]
 simp [hj]
theorem biS_rn (fl:List (ByteArray × ByteArray)) (j:Nat) (hj:j<fl.length):(biS fl)[fl.length+j]? = some (sRn (bPath j) (fl.getD j f0).1):=by
 unfold biS
 rw [List.getElem?_append_right (by simp),List.length_map,List.length_range,Nat.add_sub_cancel_left,List.getElem?_append_left (by simpa using hj)]
 simp [hj]
theorem biS_sd (fl:List (ByteArray × ByteArray)):(biS fl)[fl.length+fl.length]? = some sSd:=by
 unfold biS
 rw [List.getElem?_append_right (by simp),List.length_map,List.length_range,Nat.add_sub_cancel_left,List.getElem?_append_right (by simp)]
 simp
theorem szs_bi (fl:List (ByteArray × ByteArray)):szs (biS fl)=0:=by
 have h1:∀ l:List Nat,szs (l.map (fun t=>sSy (bPath t)))=0:=fun l=>by
  induction l with
  | nil=>rfl
  | cons a l ih=>unfold szs at ih ⊢;simp only [List.map_cons,List.sum_cons,ih];rfl
 have h2:∀ l:List Nat,szs (l.map (fun t=>sRn (bPath t) (fl.getD t f0).1))=0:=fun l=>by
  induction l with
  | nil=>rfl
  | cons a l ih=>unfold szs at ih ⊢;simp only [List.map_cons,List.sum_cons,ih];rfl
 have h3:=h1 (List.range fl.length)
 have h4:=h2 (List.range fl.length)
 unfold biS
 unfold szs at h3 h4 ⊢
 rw [List.map_append,List.map_append,List.sum_append,List.sum_append,h3,h4]
 rfl
theorem dk_sy {s:PSt} {w:World} {p:ByteArray} {L C B:Nat} (h:s.In w) (hf:DFit s.ds L C B) (hb:Bud L C B) (hp:p.size≤9223372036854775807) :
  Calls Tryz.prog 229 #[.pointer (some ⟨s.b,0,none⟩),.string p] w (DRs s w fun k D'=>stR s.ds (sSy p) k D'):=dkSync s p w h hf hb hp
theorem dk_rn {s:PSt} {w:World} {p q:ByteArray} {L C B:Nat} (h:s.In w) (hf:DFit s.ds L C B) (hb:Bud L C B) (hp:p.size≤9223372036854775807) (hq:q.size≤9223372036854775807) :
  Calls Tryz.prog 120 #[.pointer (some ⟨s.b,0,none⟩),.string p,.string q] w (DRs s w fun k D'=>stR s.ds (sRn p q) k D'):=dkRename s p q w h hf hb hp hq
theorem dk_sd {s:PSt} {w:World} {L C B:Nat} (h:s.In w) (hf:DFit s.ds L C B) (hb:Bud L C B) :
  Calls Tryz.prog 118 #[.pointer (some ⟨s.b,0,none⟩)] w (DRs s w fun k D'=>stR s.ds sSd k D'):=dkSyncDir s w h hf hb
theorem bringIn_any (sb:Nat) (s:PSt) (v:Value) (fl:List (ByteArray × ByteArray)) (w:World) {L C B:Nat} (h:On w sb s) (hfl:FlAt w v fl) (hf:DFit s.ds L C B) (hb:Bud (L+(biS fl).length) (C+(biS fl).length) (B+szs (biS fl))) (hn:fl.length≤300) (hp:∀ f∈fl,f.1.size≤1000) :
  Calls Tryz.prog 190 #[.pointer (some ⟨sb,0,none⟩),v] w fun e w'=>∃ ev k m s',e = .returned ev∧ErrV w' ev k∧PGo s s' w w'∧Ran s.ds (biS fl) k m s'.ds:=by
 have H:=hide h
 have HF:=hide hf
 have HB:=hide hb
 have HFL:=hide hfl
 have HP:=hide hp
 obtain ⟨oa,c,rfl, -⟩:=hfl
 obtain ⟨n,hnl⟩ : ∃ n,n=fl.length:=⟨_,rfl⟩
 rw [← hnl] at HFL hn ⊢
 have HN:=hide hnl
 clear h hf hb hp hnl
 go_enter Tryz.func190,Tryz.ntmps190
 go_wp2_with fail
 go_loopw [12] (fun iv wr=>∃ (j:Nat) (s1:PSt),j≤n∧iv = .int .i64 ((j:Nat):Int)∧PGo s s1 w wr∧Ran s.ds ((biS fl).take j) 0 j s1.ds) (fun iv _=>n - (intOf iv).toNat)
 case atStart=>exact ⟨0,s,Nat.zero_le _,rfl,PGo.refl H.out.inn (Below.refl _ _),rfl,rfl,rfl⟩
 case round =>
  obtain ⟨j,s1,hj,rfl,hgo,hr⟩:=hrel
  have hon:=H.out.go hgo
  have HON:=hide hon
  have HGO:=hide hgo
  have HR:=hide hr
  have HF1:=hide (HF.out.take hr)
  obtain ⟨cv,tv,hbl⟩:=hon.sb
  have c0:wr.cell? ⟨sb,0,none⟩=some (.pointer (some ⟨s1.b,0,none⟩)):=cell_of_row _ _ 0 _ _ _ hbl
  clear hon hgo hr hbl
  by_cases hlt:j<n
  ·have hps:=bPath_size j (by omega)
   have HBP:=hide (besidePath_any j (by omega) wr.drew (HON.out.later (Below.refl _ _).drew).gl.tab)
   have HSY:=hide (fun (w':World) (hb':Below wr.heap.size wr w')=>dk_sy (p:=bPath j) (HON.out.inn.later hb') HF1.out HB.out (by omega))
   clear hps
   go_wp2_with fail
   go_region_with (first|(go_at_call 139;refine (HBP.out).mono ?_;rintro _ w2 ⟨rfl,hb2⟩;have hb3:Below wr.heap.size wr w2:=((Below.refl wr.heap.size wr).drew).trans hb2;have c1:=cell_later hb3 c0)|(go_at_call 229;refine (HSY.out _ hb3).mono ?_;rintro _ w3 ⟨ev,k,s2,rfl,hv,hg2,hst⟩))
   all_goals
    have HG2:=hide (HGO.out.trans ((PGo.refl HON.out.inn hb3).trans hg2))
    have HNX:=hide (ran_next HR.out (biS_sy fl j (by rw [← HN.out];exact hlt)) hst)
    clear hg2 hst hb2 hb3 c0 c1 HBP HSY
    rcases hv with ⟨hk0,rfl⟩|⟨hk0,sv,nm,rfl,hse⟩
    ·have HNX0:=hide (HNX.out.1 hk0)
     clear HNX hk0
     go_wp2_with fail
     exact ⟨⟨j+1,s2,hlt,by simp,HG2.out,HNX0.out⟩,by simp only [intOf];omega⟩
    ·have HE:=hide hse
     clear hse
     go_wp2_with fail
     go_ret
     obtain ⟨m,hm⟩:=HNX.out.2 hk0
     exact ⟨_,k,m,s2,rfl,.inr ⟨hk0,sv,nm,rfl,HE.out⟩,HG2.out,hm⟩
  ·have hjn:j=n:=by omega
   subst hjn
   have d1:decide (((j:Nat):Int)<((j:Nat):Int))=false:=decide_eq_false (by omega)
   clear c0
   go_wp2_with fail
   go_loopw [28] (fun iv wq=>∃ (i:Nat) (s1:PSt),i≤j∧iv = .int .i64 ((i:Nat):Int)∧PGo s s1 w wq∧Ran s.ds ((biS fl).take (j+i)) 0 (j+i) s1.ds) (fun iv _=>j - (intOf iv).toNat)
   case atStart=>exact ⟨0,s1,Nat.zero_le _,rfl,HGO.out,HR.out⟩
   case round =>
    clear HON HGO HR HF1
    obtain ⟨i,s2,hi,rfl,hgo,hr⟩:=hrel
    have hon:=H.out.go hgo
    have HON:=hide hon
    have HGO:=hide hgo
    have HR:=hide hr
    have HF1:=hide (HF.out.take hr)
    have hflr:=HFL.out.go H.out.inn hgo
    obtain ⟨cv,tv,hbl⟩:=hon.sb
    have c0:wr.cell? ⟨sb,0,none⟩=some (.pointer (some ⟨s2.b,0,none⟩)):=cell_of_row _ _ 0 _ _ _ hbl
    clear hon hgo hr hbl
    by_cases hlt:i<j
    ·have hps:=bPath_size i (by omega)
     have hil:i<fl.length:=by rw [← HN.out];exact hlt
     obtain ⟨oa2,cc2,hv2,hk2⟩:=hflr
     injection hv2 with hv2 hv3 hv4
     subst hv2
     clear hv3 hv4
     obtain ⟨g,cur,fr,rfl,hgh,r0,r1⟩:=hk2 i hil
     have hmem:fl.getD i f0∈fl:=by rw [List.getD_eq_getElem?_getD,List.getElem?_eq_getElem hil];exact List.getElem_mem hil
     have hfs:=HP.out _ hmem
     have HRNX:=hide (biS_rn fl i hil)
     generalize fl.getD i f0=ff at r0 r1 hfs HRNX
     obtain ⟨fp,fb⟩:=ff
     dsimp only at r0 r1 hfs HRNX
     have hbo:Below wr.heap.size wr (wr.alloc (.cells #[.string fp,.string fb] 222)):=(Below.refl _ _).alloc (Nat.le_refl _) _
     have c0x:=cell_later hbo c0
     obtain ⟨X,hX⟩ : ∃ X,X=wr.alloc (.cells #[.string fp,.string fb] 222):=⟨_,rfl⟩
     have hxr:X.heap[wr.heap.size]? = some (.cells #[.string fp,.string fb] 222 (0,0)):=by rw [hX];exact heap_alloc_new _ _
     rw [← hX] at hbo c0x
     have HBO:=hide hbo
     have HBP:=hide (besidePath_any i (by omega) X.drew ((HON.out.later hbo).later (Below.refl _ _).drew).gl.tab)
     have HSY:=hide (fun (w':World) (hb':Below wr.heap.size wr w')=>dk_rn (p:=bPath i) (q:=fp) (HON.out.inn.later hb') HF1.out HB.out (by omega) (by omega))
     have x0:X.cell? ⟨wr.heap.size,0,none⟩=some (.string fp):=cell_of_row _ _ 0 _ _ _ hxr
     have HXX:=hide hX
     clear hps hk2 hgh hmem hfs hbo hxr hX
     go_upto_region 11 with fail
     rw [← HXX.out]
     clear HXX c0 r0 r1
     obtain ⟨xb,hxb⟩ : ∃ xb,xb=wr.heap.size:=⟨_,rfl⟩
     rw [← hxb] at x0 ⊢
     clear hxb
     go_region_with (first|(go_at_call 139;refine (HBP.out).mono ?_;rintro _ w2 ⟨rfl,hb2⟩;have hb3:Below X.heap.size X w2:=((Below.refl X.heap.size X).drew).trans hb2;have c1:=cell_later hb3 c0x;have x1:=cell_later hb3 x0)|(go_at_call 120;refine (HSY.out _ (HBO.out.trans (hb3.mono HBO.out.size))).mono ?_;rintro _ w3 ⟨ev,k,s3,rfl,hv,hg2,hst⟩))
     all_goals
      have HG2:=hide (HGO.out.trans ((PGo.refl HON.out.inn (HBO.out.trans (hb3.mono HBO.out.size))).trans hg2))
      have HNX:=hide (ran_next HR.out (by rw [HN.out];exact HRNX.out) hst)
      clear hg2 hst hb2 hb3 c0x c1 x0 x1 HBP HSY
      rcases hv with ⟨hk0,rfl⟩|⟨hk0,sv,nm,rfl,hse⟩
      ·have HNX0:=hide (HNX.out.1 hk0)
       clear HNX hk0
       go_wp2_with fail
       exact ⟨⟨i+1,s3,hlt,by simp,HG2.out,HNX0.out⟩,by simp only [intOf];omega⟩
      ·have HE:=hide hse
       clear hse
       go_wp2_with fail
       go_ret
       obtain ⟨m,hm⟩:=HNX.out.2 hk0
       exact ⟨_,k,m,s3,rfl,.inr ⟨hk0,sv,nm,rfl,HE.out⟩,HG2.out,hm⟩
    ·have hin:i=j:=by omega
     subst hin
     have d2:decide (((i:Nat):Int)<((i:Nat):Int))=false:=decide_eq_false (by omega)
     have HSD:=hide (dk_sd (s:=s2) (w:=wr) HON.out.inn HF1.out HB.out)
     clear hflr
     go_wp2_with fail
     refine HSD.out.mono ?_
     rintro _ w3 ⟨ev,k,s3,rfl,hv,hg2,hst⟩
     dsimp only
     have HG2:=hide (HGO.out.trans hg2)
     have HNX:=hide (ran_next HR.out (by rw [HN.out];exact biS_sd fl) hst)
     have HV:=hide hv
     have hone:∃ u,ev = .nilIface∨ev = .iface 165 u:=by
      rcases hv with ⟨_,rfl⟩|⟨_,sv,nm,rfl,_⟩
      ·exact ⟨.nilIface,.inl rfl⟩
      ·exact ⟨_,.inr rfl⟩
     clear hg2 hst hv c0
     go_wp2_with fail
     go_ret
     by_cases hk0:k=0
     ·refine ⟨ev,k,i+i+1,s3,rfl,HV.out,HG2.out,?_⟩
      have h7:=HNX.out.1 hk0
      rw [List.take_of_length_le (by rw [biS_len,← HN.out];omega)] at h7
      rw [hk0]
      exact h7
     ·obtain ⟨m,hm⟩:=HNX.out.2 hk0
      exact ⟨ev,k,m,s3,rfl,HV.out,HG2.out,hm⟩
set_option maxHeartbeats 4000000
set_option maxRecDepth 100000
open Go.RowKit
theorem PGo.setNew {s s1:PSt} {w wr:World} {b i:Nat} {cur:Array Value} {T:TypeId} {v:Value} (hg:PGo s s1 w wr) (hb:w.heap.size≤b) (hc:wr.heap[b]? = some (.cells cur T (0,0))) (h1:T≠150) (h2:T≠214) (h3:T≠154) (h4:T≠5):PGo s s1 w (wr.setCell ⟨b,i,none⟩ v):=by
 have hset:∀ k,k≠b→(wr.setCell ⟨b,i,none⟩ v).heap[k]? = wr.heap[k]?:=fun k hk=>heap_setCell_other _ _ _ _ (by simpa using hk)
 have hg1:=grownBy_set wr b i v
 exact ⟨hg.b,hg.inn.same (fun k hk=>hset k (fun e=>hg.inn.notOwn hc h1 h2 h3 h4 (by rw [← e];exact hk))),⟨hg1.os.trans hg.gr.os,hg1.tape.trans hg.gr.tape,hg1.output.trans hg.gr.output,Nat.le_trans hg.gr.size hg1.size,fun k hk hn=>(hset k (by omega)).trans (hg.gr.block k hk hn)⟩,hg.own⟩
theorem dk_ap {s:PSt} {w:World} {p q:ByteArray} {L C B:Nat} (h:s.In w) (hf:DFit s.ds L C B) (hb:Bud L C B) (hp:p.size≤9223372036854775807) (hq:q.size≤1000000) :
  Calls Tryz.prog 189 #[.pointer (some ⟨s.b,0,none⟩),.string p,.string q] w (DRs s w fun k D'=>stR s.ds (sAp p q) k D'):=dkAppend s p q w h hf hb hp hq
def apL (fl:List (ByteArray × ByteArray)):List Stp:=(List.range fl.length).map fun t=>sAp (bPath t) (fl.getD t f0).2
def wrS (fl:List (ByteArray × ByteArray)):List Stp:=apL fl++biS fl
theorem apL_len (fl:List (ByteArray × ByteArray)):(apL fl).length=fl.length:=by simp [apL]
theorem apL_at (fl:List (ByteArray × ByteArray)) (j:Nat) (hj:j<fl.length):(apL fl)[j]? = some (sAp (bPath j) (fl.getD j f0).2):=by simp [apL,hj]
def WrR (D:DS) (fl:List (ByteArray × ByteArray)) (k:Int) (D':DS):Prop:=∃ m D1,Ran D (wrS fl) k m D1∧((k=0∧D'=D1)∨(k≠0∧RanI D1 (tbS (min m fl.length)) D'))
theorem writeD_ok (ge gs gl:Nat) (u:FrameMode) (w:World) (he:w.cell? ⟨ge,0,none⟩=some .nilIface) :
  CallsD Tryz.prog 187 #[.pointer (some ⟨ge,0,none⟩),.pointer (some ⟨gs,0,none⟩),.pointer (some ⟨gl,0,none⟩)] u w fun e u' w'=>u'=u∧(e = .returned (.tuple #[])∧w'=w):=by
 go_enter_d Tryz.func187,Tryz.ntmps187
 go_wp2_with fail
 go_end0
 exact ⟨rfl,rfl⟩
theorem writeD_err (ge gs gl sb n:Nat) (s:PSt) (sv:Nat) (u:FrameMode) (w:World) {L C B:Nat} (he:w.cell? ⟨ge,0,none⟩=some (.iface 165 (.pointer (some ⟨sv,0,none⟩)))) (hs:w.cell? ⟨gs,0,none⟩=some (.pointer (some ⟨sb,0,none⟩))) (hl:w.cell? ⟨gl,0,none⟩=some (.int .i64 ((n:Nat):Int)))
  (h:On w sb s) (hf:DFit s.ds L C B) (hb:Bud (L+n+1) (C+n+1) B) (hn:n≤300) :
  CallsD Tryz.prog 187 #[.pointer (some ⟨ge,0,none⟩),.pointer (some ⟨gs,0,none⟩),.pointer (some ⟨gl,0,none⟩)] u w fun e u' w'=>u'=u∧(e = .returned (.tuple #[])∧∃ s',PGo s s' w w'∧RanI s.ds (tbS n) s'.ds):=by
 have HT:=hide (takeBack_any sb s n w h hf hb hn)
 clear h hf hb
 go_enter_d Tryz.func187,Tryz.ntmps187
 go_wp2_with fail
 refine HT.out.mono ?_
 rintro _ w1 ⟨rfl,s1,h1,h2⟩
 dsimp only
 have H1:=hide h1
 have H2:=hide h2
 clear h1 h2 he hs hl
 go_wp2_with fail
 go_end0
 exact ⟨rfl,s1,H1.out,H2.out⟩
theorem ran_next2 {S:List Stp} {D D1 D2:DS} {i m:Nat} {t:Stp} {k:Int} (h:Ran D (S.take i) 0 m D1) (ht:S[i]? = some t) (hs:stR D1 t k D2) (hk:k≠0):Ran D S k m D2:=by
 have hi:i<S.length:=(List.getElem?_eq_some_iff.1 ht).1
 have e1:S.take (i+1)=S.take i ++ [t]:=by
  rw [List.take_succ_eq_append_getElem hi]
  rw [List.getElem?_eq_getElem hi] at ht
  rw [Option.some.inj ht]
 have h1:=h.app (Ran.one hs)
 rw [if_neg hk,Nat.add_zero] at h1
 have h2:=h1.stop (S.drop (i+1)) hk
 rw [← e1,List.take_append_drop] at h2
 exact h2
theorem wrS_len (fl:List (ByteArray × ByteArray)):(wrS fl).length=fl.length+(biS fl).length:=by unfold wrS;rw [List.length_append,apL_len]
theorem szs_wr (fl:List (ByteArray × ByteArray)):szs (wrS fl)=szs (apL fl)+szs (biS fl):=by unfold wrS szs;rw [List.map_append,List.sum_append]
structure WV (w:World) (gs ge gl sb j:Nat) (ev:Value):Prop where
 s:w.heap[gs]? = some (.cells #[.pointer (some ⟨sb,0,none⟩)] 92 (0,0))
 e:w.heap[ge]? = some (.cells #[ev] 94 (0,0))
 l:w.heap[gl]? = some (.cells #[.int .i64 ((j:Nat):Int)] 3 (0,0))
theorem WV.later {w w':World} {gs ge gl sb j:Nat} {ev:Value} (h:WV w gs ge gl sb j ev) (hb:Below w.heap.size w w'):WV w' gs ge gl sb j ev :=
 ⟨(hb.block _ (lt_of_row h.s)).trans h.s,(hb.block _ (lt_of_row h.e)).trans h.e,(hb.block _ (lt_of_row h.l)).trans h.l⟩
theorem WV.go {w w':World} {gs ge gl sb j:Nat} {ev:Value} {s s':PSt} (h:WV w gs ge gl sb j ev) (hi:s.In w) (hg:PGo s s' w w'):WV w' gs ge gl sb j ev :=
 ⟨hg.keeps hi h.s (by decide) (by decide) (by decide) (by decide),hg.keeps hi h.e (by decide) (by decide) (by decide) (by decide),hg.keeps hi h.l (by decide) (by decide) (by decide) (by decide)⟩
theorem WV.setL {w:World} {gs ge gl sb j:Nat} {ev:Value} (h:WV w gs ge gl sb j ev) (j':Nat):WV (w.setCell ⟨gl,0,none⟩ (.int .i64 ((j':Nat):Int))) gs ge gl sb j' ev :=
 ⟨(heap_setCell_other _ _ _ _ (by simpa using type_ne h.s h.l (by decide))).trans h.s,(heap_setCell_other _ _ _ _ (by simpa using type_ne h.e h.l (by decide))).trans h.e,by rw [heap_setCell_same _ gl 0 _ _ _ h.l];rfl⟩
theorem WV.setE {w:World} {gs ge gl sb j:Nat} {ev:Value} (h:WV w gs ge gl sb j ev) (ev':Value):WV (w.setCell ⟨ge,0,none⟩ ev') gs ge gl sb j ev' :=
 ⟨(heap_setCell_other _ _ _ _ (by simpa using type_ne h.s h.e (by decide))).trans h.s,by rw [heap_setCell_same _ ge 0 _ _ _ h.e];rfl,(heap_setCell_other _ _ _ _ (by simpa using type_ne h.l h.e (by decide))).trans h.l⟩
def W4 (w:World) (gs gl sb xb b j:Nat) (fb:ByteArray):Prop:=w.cell? ⟨gs,0,none⟩=some (.pointer (some ⟨sb,0,none⟩))∧w.cell? ⟨sb,0,none⟩=some (.pointer (some ⟨b,0,none⟩))∧w.cell? ⟨gl,0,none⟩=some (.int .i64 ((j:Nat):Int))∧w.cell? ⟨xb,1,none⟩=some (.string fb)
theorem w4_of {w:World} {gs ge gl sb xb b j:Nat} {ev:Value} {fp fb:ByteArray} (h1:WV w gs ge gl sb j ev) (h2:SB w sb b) (h3:w.heap[xb]? = some (.cells #[.string fp,.string fb] 222 (0,0))):W4 w gs gl sb xb b j fb:=by
 obtain ⟨cv,tv,h2⟩:=h2
 exact ⟨cell_of_row _ _ 0 _ _ _ h1.s,cell_of_row _ _ 0 _ _ _ h2,cell_of_row _ _ 0 _ _ _ h1.l,cell_of_row _ _ 1 _ _ _ h3⟩
theorem w4_go {w w':World} {gs ge gl sb xb j:Nat} {s s':PSt} {ev:Value} {fp fb:ByteArray} (h1:WV w gs ge gl sb j ev) (h2:SB w sb s.b) (h3:w.heap[xb]? = some (.cells #[.string fp,.string fb] 222 (0,0))) (hi:s.In w) (hg:PGo s s' w w'):W4 w' gs gl sb xb s.b j fb:=by
 have h4:=h2.go hi hg
 rw [hg.b] at h4
 exact w4_of (h1.go hi hg) h4 (hg.keeps hi h3 (by decide) (by decide) (by decide) (by decide))
theorem write_any (sb:Nat) (s:PSt) (v:Value) (fl:List (ByteArray × ByteArray)) (w:World) {L C B:Nat} (h:On w sb s) (hfl:FlAt w v fl) (hf:DFit s.ds L C B) (hb:Bud (L+(wrS fl).length+fl.length+1) (C+(wrS fl).length+fl.length+1) (B+szs (wrS fl))) (hn0:fl≠[]) (hn:fl.length≤300) (hp:∀ f∈fl,f.1.size≤1000∧f.2.size≤1000000) :
  Calls Tryz.prog 138 #[.pointer (some ⟨sb,0,none⟩),v] w fun e w'=>∃ ev k s',e = .returned ev∧ErrV w' ev k∧PGo s s' w w'∧WrR s.ds fl k s'.ds:=by
 have H:=hide h
 have HF:=hide hf
 have HB:=hide hb
 have HFL:=hide hfl
 have HP:=hide hp
 obtain ⟨oa,c,rfl, -⟩:=hfl
 obtain ⟨n,hnl⟩ : ∃ n,n=fl.length:=⟨_,rfl⟩
 have hnp:0<n:=by rw [hnl];exact List.length_pos_iff.2 hn0
 have hz:(((n:Nat):Int) == 0)=false:=by simp;omega
 have hz2:¬ ((n:Nat):Int)=0:=by omega
 rw [← hnl] at HFL hn ⊢
 have HN:=hide hnl
 have hmf:∀ (fn:Fn) (first cap:Array Value) (w:World),(Instr.makeFunc fn first cap).run Tryz.prog w = .ok (.func fn first cap) w:=fun _ _ _ _=>rfl
 have hb3:=three_below w (.cells #[.pointer (some ⟨sb,0,none⟩)] 92) (.cells #[.nilIface] 94) (.cells #[.int .i64 0] 3)
 have k0:=three0 w #[.pointer (some ⟨sb,0,none⟩)] 92 (.cells #[.nilIface] 94) (.cells #[.int .i64 0] 3)
 have k1:=three1 w (.cells #[.pointer (some ⟨sb,0,none⟩)] 92) #[.nilIface] 94 (.cells #[.int .i64 0] 3)
 have k2:=three2 w (.cells #[.pointer (some ⟨sb,0,none⟩)] 92) (.cells #[.nilIface] 94) #[.int .i64 0] 3
 have HB3:=hide hb3
 have HK0:=hide k0
 have HK1:=hide k1
 have HK2:=hide k2
 clear h hf hb hp hnl hb3 k0 k1 k2 hn0
 go_enter_defers Tryz.func138,Tryz.ntmps138
 go_wp2_with fail
 obtain ⟨gs,hgs⟩ : ∃ gs,gs=w.heap.size:=⟨_,rfl⟩
 obtain ⟨ge,hge⟩ : ∃ ge,ge=w.heap.size+1:=⟨_,rfl⟩
 obtain ⟨gl,hgl⟩ : ∃ gl,gl=w.heap.size+1+1:=⟨_,rfl⟩
 have hwv0:WV (((w.alloc (.cells #[.pointer (some ⟨sb,0,none⟩)] 92)).alloc (.cells #[.nilIface] 94)).alloc (.cells #[.int .i64 0] 3)) gs ge gl sb 0 .nilIface:=by
  rw [hgs,hge,hgl]
  exact ⟨HK0.out,HK1.out,HK2.out⟩
 obtain ⟨w0,hw0⟩ : ∃ w0,w0=(((w.alloc (.cells #[.pointer (some ⟨sb,0,none⟩)] 92)).alloc (.cells #[.nilIface] 94)).alloc (.cells #[.int .i64 0] 3)):=⟨_,rfl⟩
 have hb0:=HB3.out
 rw [← hw0] at hwv0 hb0 ⊢
 rw [← hgl,← hge,← hgs]
 have hnew:w.heap.size≤ge∧w.heap.size≤gl:=by omega
 have HNEW:=hide hnew
 have HWV0:=hide hwv0
 have HB0:=hide hb0
 clear hw0 hwv0 hb0 hgs hge hgl hnew HK0 HK1 HK2 HB3 hz hz2 hmf
 go_loopw [15] (fun iv wr=>∃ (j:Nat) (s1:PSt),j≤n∧iv = .int .i64 ((j:Nat):Int)∧PGo s s1 w wr∧Ran s.ds ((apL fl).take j) 0 j s1.ds∧WV wr gs ge gl sb j .nilIface) (fun iv _=>n - (intOf iv).toNat)
 case atStart=>exact ⟨0,s,Nat.zero_le _,rfl,PGo.refl H.out.inn HB0.out,⟨rfl,rfl,rfl⟩,HWV0.out⟩
 case round =>
  clear HWV0 HB0
  obtain ⟨j,s1,hj,rfl,hgo,hr,hwv⟩:=hrel
  have hon:=H.out.go hgo
  have HON:=hide hon
  have HGO:=hide hgo
  have HR:=hide hr
  have HF1:=hide ((HF.out.take hr).mono (L':=L+(wrS fl).length) (C':=C+(wrS fl).length) (B':=B+szs (wrS fl)) (by rw [wrS_len,apL_len];omega) (by rw [wrS_len,apL_len];omega) (by rw [szs_wr];omega))
  have hflr:=HFL.out.go H.out.inn hgo
  have HWV:=hide hwv
  obtain ⟨cv,tv,hbl⟩:=hon.sb
  have c0:wr.cell? ⟨sb,0,none⟩=some (.pointer (some ⟨s1.b,0,none⟩)):=cell_of_row _ _ 0 _ _ _ hbl
  have g0:wr.cell? ⟨gs,0,none⟩=some (.pointer (some ⟨sb,0,none⟩)):=cell_of_row _ _ 0 _ _ _ hwv.s
  have l0:wr.cell? ⟨gl,0,none⟩=some (.int .i64 ((j:Nat):Int)):=cell_of_row _ _ 0 _ _ _ hwv.l
  clear hon hgo hr hbl hwv
  by_cases hlt:j<n
  ·have hps:=bPath_size j (by omega)
   have hil:j<fl.length:=by rw [← HN.out];exact hlt
   obtain ⟨oa2,cc2,hv2,hk2⟩:=hflr
   injection hv2 with hv2 hv3 hv4
   subst hv2
   clear hv3 hv4
   obtain ⟨g,cur,fr,rfl,hgh,r0,r1⟩:=hk2 j hil
   have hmem:fl.getD j f0∈fl:=by rw [List.getD_eq_getElem?_getD,List.getElem?_eq_getElem hil];exact List.getElem_mem hil
   have hfs:=HP.out _ hmem
   have HAT:=hide (apL_at fl j hil)
   generalize fl.getD j f0=ff at r0 r1 hfs HAT
   obtain ⟨fp,fb⟩:=ff
   dsimp only at r0 r1 hfs HAT
   have hbo:Below wr.heap.size wr (wr.alloc (.cells #[.string fp,.string fb] 222)):=(Below.refl _ _).alloc (Nat.le_refl _) _
   have cx:=cell_later hbo c0
   have gx:=cell_later hbo g0
   have lx:=cell_later hbo l0
   obtain ⟨X,hX⟩ : ∃ X,X=wr.alloc (.cells #[.string fp,.string fb] 222):=⟨_,rfl⟩
   have hxr:X.heap[wr.heap.size]? = some (.cells #[.string fp,.string fb] 222 (0,0)):=by rw [hX];exact heap_alloc_new _ _
   rw [← hX] at hbo cx gx lx
   have HBO:=hide hbo
   have HBP:=hide (besidePath_any j (by omega) X.drew ((HON.out.later hbo).later (Below.refl _ _).drew).gl.tab)
   have HAP:=hide (fun (w':World) (hb':Below wr.heap.size wr w')=>dk_ap (p:=bPath j) (q:=fb) (HON.out.inn.later hb') HF1.out (HB.out.mono (by omega) (by omega) (Nat.le_refl _)) (by omega) hfs.2)
   have x1:X.cell? ⟨wr.heap.size,1,none⟩=some (.string fb):=cell_of_row _ _ 1 _ _ _ hxr
   have HXR:=hide hxr
   have HXX:=hide hX
   clear hps hk2 hgh hmem hfs hbo hxr hX
   go_upto_region 8 with fail
   rw [← HXX.out]
   clear HXX c0 r0 r1 g0 l0
   obtain ⟨xb,hxb⟩ : ∃ xb,xb=wr.heap.size:=⟨_,rfl⟩
   rw [← hxb] at x1 HXR ⊢
   clear hxb
   go_region_held3 (fun w'=>w'.cell? ⟨gs,0,none⟩=some (.pointer (some ⟨sb,0,none⟩))∧w'.cell? ⟨sb,0,none⟩=some (.pointer (some ⟨s1.b,0,none⟩))∧w'.cell? ⟨gl,0,none⟩=some (.int .i64 ((j:Nat):Int))∧w'.cell? ⟨xb,1,none⟩=some (.string fb)) (first|go_keep|exact hS3|exact hS2) ((first|(go_at_call 139;refine (HBP.out).mono ?_;rintro _ w2 ⟨rfl,hb2⟩;have hb3:Below X.heap.size X w2:=((Below.refl X.heap.size X).drew).trans hb2;have hb4:Below wr.heap.size wr w2:=HBO.out.trans (hb3.mono HBO.out.size);have hS2:=w4_of (HWV.out.later hb4) (HON.out.sb.later hb4) ((hb3.block _ (lt_of_row HXR.out)).trans HXR.out))|(go_at_call 189;refine (HAP.out _ hb4).mono ?_;rintro _ w3 ⟨ev,k,s2,rfl,hv,hg2,hst⟩;have hS3:=w4_go (HWV.out.later hb4) (HON.out.sb.later hb4) ((hb3.block _ (lt_of_row HXR.out)).trans HXR.out) (HON.out.inn.later hb4) hg2)))
   have hg3:=HGO.out.trans ((PGo.refl HON.out.inn hb4).trans hg2)
   have hwv3:=(HWV.out.later hb4).go (HON.out.inn.later hb4) hg2
   have HG3:=hide hg3
   have HWV3:=hide hwv3
   have HST:=hide hst
   have l3:w3.cell? ⟨gl,0,none⟩=some (.int .i64 ((j:Nat):Int)):=cell_of_row _ _ 0 _ _ _ hwv3.l
   have lf:w3.frozen? ⟨gl,0,none⟩=false:=frozen_of_row _ _ 0 _ _ hwv3.l
   have e3:w3.cell? ⟨ge,0,none⟩=some .nilIface:=cell_of_row _ _ 0 _ _ _ hwv3.e
   have ef:w3.frozen? ⟨ge,0,none⟩=false:=frozen_of_row _ _ 0 _ _ hwv3.e
   clear hg2 hst hb2 hb3 hb4 hS2 hS3 cx gx lx x1 HBP HAP hg3 hwv3
   rcases hv with ⟨hk0,rfl⟩|⟨hk0,sv,nm,rfl,hse⟩
   ·have HNX:=hide ((ran_next HR.out HAT.out HST.out).1 hk0)
    clear hk0 e3 ef
    go_wp2_with fail
    have ecast:(((j:Nat):Int)+1)=(((j+1:Nat):Nat):Int):=by omega
    refine ⟨⟨j+1,s2,hlt,by simp,?_,HNX.out,?_⟩,by simp only [intOf];omega⟩
    ·exact HG3.out.setNew HNEW.out.2 HWV3.out.l (by decide) (by decide) (by decide) (by decide)
    ·rw [ecast]
     exact HWV3.out.setL (j+1)
   ·have HE:=hide hse
    have HRN:=hide (ran_next2 HR.out HAT.out HST.out hk0)
    have HK:=hide hk0
    clear hse hk0 l3 lf
    go_wp2_with fail
    have hg4:=HG3.out.setNew (v:=.iface 165 (.pointer (some ⟨sv,0,none⟩))) (i:=0) HNEW.out.1 HWV3.out.e (by decide) (by decide) (by decide) (by decide)
    have hwv4:=HWV3.out.setE (.iface 165 (.pointer (some ⟨sv,0,none⟩)))
    have hrn:Ran s.ds (wrS fl) k j s2.ds:=HRN.out.stop _ HK.out
    refine leaves_cons (f:=187) (args:=#[.pointer (some ⟨ge,0,none⟩),.pointer (some ⟨gs,0,none⟩),.pointer (some ⟨gl,0,none⟩)]) (by simp) (by simp [go_sem]) ?_
    refine (writeD_err ge gs gl sb j s2 sv _ _ (cell_of_row _ _ 0 _ _ _ hwv4.e) (cell_of_row _ _ 0 _ _ _ hwv4.s) (cell_of_row _ _ 0 _ _ _ hwv4.l) (H.out.go hg4) (HF.out.ran hrn) (HB.out.mono (by rw [← HN.out];omega) (by rw [← HN.out];omega) (Nat.le_refl _)) (by omega)).mono ?_
    rintro e u' w5 ⟨rfl,rfl,s5,h5,h6⟩
    have hwv5:=hwv4.go hg4.inn h5
    have c5:w5.cell? ⟨ge,0,none⟩=some (.iface 165 (.pointer (some ⟨sv,0,none⟩))):=cell_of_row _ _ 0 _ _ _ hwv5.e
    have hse5:w5.heap[sv]? = some (.cells #[.string nm,refV k] 167 (0,0)):=h5.keeps hg4.inn ((heap_setCell_other _ _ _ _ (by simpa using type_ne HE.out HWV3.out.e (by decide))).trans HE.out) (by decide) (by decide) (by decide) (by decide)
    refine ⟨.iface 165 (.pointer (some ⟨sv,0,none⟩)),?_,_,k,s5,rfl,.inr ⟨HK.out,sv,nm,rfl,hse5⟩,hg4.trans h5,j,s2.ds,hrn,.inr ⟨HK.out,by rw [Nat.min_eq_left (by rw [← HN.out];exact hj)];exact h6⟩⟩
    simp [results,Tryz.results138,go_sem,c5]
  ·have hjn:j=n:=by omega
   subst hjn
   have d1:decide (((j:Nat):Int)<((j:Nat):Int))=false:=decide_eq_false (by omega)
   have hran:Ran s.ds (apL fl) 0 j s1.ds:=by
    have h7:=HR.out
    rwa [List.take_of_length_le (by rw [apL_len,← HN.out];exact Nat.le_refl _)] at h7
   have HRAN:=hide hran
   have hf2:=HF.out.ran hran
   have HBI:=hide (bringIn_any sb s1 (.slice oa j c) fl wr HON.out hflr (HF.out.ran hran) (HB.out.mono (by rw [wrS_len,apL_len];omega) (by rw [wrS_len,apL_len];omega) (by rw [szs_wr];omega)) (by rw [← HN.out];omega) (fun f hf=>(HP.out f hf).1))
   clear hflr hran hf2 l0 c0
   go_wp2_with fail
   refine HBI.out.mono ?_
   rintro _ w3 ⟨ev,k,m,s2,rfl,hv,hg2,hst⟩
   dsimp only
   have hg3:=HGO.out.trans hg2
   have hwv3:=HWV.out.go HON.out.inn hg2
   have HG3:=hide hg3
   have HWV3:=hide hwv3
   have hrn:Ran s.ds (wrS fl) k (j+m) s2.ds:=HRAN.out.app hst
   have HRN:=hide hrn
   have e3:w3.cell? ⟨ge,0,none⟩=some .nilIface:=cell_of_row _ _ 0 _ _ _ hwv3.e
   have ef:w3.frozen? ⟨ge,0,none⟩=false:=frozen_of_row _ _ 0 _ _ hwv3.e
   clear hg2 hst hg3 hwv3 hrn g0
   rcases hv with ⟨hk0,rfl⟩|⟨hk0,sv,nm,rfl,hse⟩
   ·have HK:=hide hk0
    clear hk0
    go_wp2_with fail
    have hg4:=HG3.out.setNew (v:=.nilIface) (i:=0) HNEW.out.1 HWV3.out.e (by decide) (by decide) (by decide) (by decide)
    have hwv4:=HWV3.out.setE .nilIface
    have c5:=cell_of_row _ _ 0 _ _ _ hwv4.e
    refine leaves_cons (f:=187) (args:=#[.pointer (some ⟨ge,0,none⟩),.pointer (some ⟨gs,0,none⟩),.pointer (some ⟨gl,0,none⟩)]) (by simp) (by simp [go_sem]) ?_
    refine (writeD_ok ge gs gl _ _ c5).mono ?_
    rintro e u' w5 ⟨rfl,rfl,rfl⟩
    refine ⟨.nilIface,?_,_,k,s2,rfl,.inl ⟨HK.out,rfl⟩,hg4,j+m,s2.ds,HRN.out,.inl ⟨HK.out,rfl⟩⟩
    have c6:(w3.setCell ⟨ge,0,none⟩ Value.nilIface).cell? ⟨ge,0,none⟩=some .nilIface:=c5
    simp [results,Tryz.results138,go_sem,c6]
   ·have HE:=hide hse
    have HK:=hide hk0
    clear hse hk0
    go_wp2_with fail
    have hg4:=HG3.out.setNew (v:=.iface 165 (.pointer (some ⟨sv,0,none⟩))) (i:=0) HNEW.out.1 HWV3.out.e (by decide) (by decide) (by decide) (by decide)
    have hwv4:=HWV3.out.setE (.iface 165 (.pointer (some ⟨sv,0,none⟩)))
    have hrn:=HRN.out
    refine leaves_cons (f:=187) (args:=#[.pointer (some ⟨ge,0,none⟩),.pointer (some ⟨gs,0,none⟩),.pointer (some ⟨gl,0,none⟩)]) (by simp) (by simp [go_sem]) ?_
    refine (writeD_err ge gs gl sb j s2 sv _ _ (cell_of_row _ _ 0 _ _ _ hwv4.e) (cell_of_row _ _ 0 _ _ _ hwv4.s) (cell_of_row _ _ 0 _ _ _ hwv4.l) (H.out.go hg4) (HF.out.ran hrn) (HB.out.mono (by rw [← HN.out];omega) (by rw [← HN.out];omega) (Nat.le_refl _)) (by omega)).mono ?_
    rintro e u' w5 ⟨rfl,rfl,s5,h5,h6⟩
    have hwv5:=hwv4.go hg4.inn h5
    have c5:w5.cell? ⟨ge,0,none⟩=some (.iface 165 (.pointer (some ⟨sv,0,none⟩))):=cell_of_row _ _ 0 _ _ _ hwv5.e
    have hse5:w5.heap[sv]? = some (.cells #[.string nm,refV k] 167 (0,0)):=h5.keeps hg4.inn ((heap_setCell_other _ _ _ _ (by simpa using type_ne HE.out HWV3.out.e (by decide))).trans HE.out) (by decide) (by decide) (by decide) (by decide)
    refine ⟨.iface 165 (.pointer (some ⟨sv,0,none⟩)),?_,_,k,s5,rfl,.inr ⟨HK.out,sv,nm,rfl,hse5⟩,hg4.trans h5,j+m,s2.ds,hrn,.inr ⟨HK.out,by rw [← HN.out,Nat.min_eq_right (by omega)];exact h6⟩⟩
    simp [results,Tryz.results138,go_sem,c5]
set_option maxHeartbeats 1000000
set_option maxRecDepth 100000
open Go.RowKit
theorem dkFit (s:PSt) (n:Int) (w:World) (h:s.In w) :
  Calls Tryz.prog 135 #[.pointer (some ⟨s.b,0,none⟩),.int .i64 n] w fun e w'=>∃ v k,e = .returned v∧ErrV w' v k∧(k=0 ↔ n≤s.R.room)∧PGo s s w w':=by
 have c0:w.cell? ⟨s.b,0,none⟩=some (.int .i64 s.R.room):=cell_of_row _ _ 0 _ _ _ h.is.blk
 have H:=hide h
 clear h
 by_cases hn:s.R.room<n
 ·have key:Calls Tryz.prog 135 #[.pointer (some ⟨s.b,0,none⟩),.int .i64 n] w fun e w'=>∃ v,e = .returned v∧stepE w' v 4∧Below w.heap.size w w':=by
   have hfin:stepE (w.alloc (.cells #[.string ⟨#[70,105,116]⟩,.iface 161 (.int .i64 4)] 167)) (.iface 165 (.pointer (some ⟨w.heap.size,0,none⟩))) 4:=⟨_,_,rfl,heap_alloc_new _ _⟩
   have HFIN:=hide hfin
   have hd:decide (s.R.room<n)=true:=decide_eq_true hn
   clear hfin
   go_enter Tryz.func135,Tryz.ntmps135
   go_wp2_with fail
   go_ret
   exact ⟨_,rfl,HFIN.out,(Below.refl _ _).alloc (Nat.le_refl _) _⟩
  refine key.mono ?_
  rintro e w' ⟨v,rfl,h1,h2⟩
  exact ⟨v,4,rfl,.inr ⟨by decide,h1⟩,⟨fun h=>absurd h (by decide),fun h=>absurd hn (by omega)⟩,PGo.refl H.out h2⟩
 ·have key:Calls Tryz.prog 135 #[.pointer (some ⟨s.b,0,none⟩),.int .i64 n] w fun e w'=>e = .returned .nilIface∧w'=w:=by
   have hd:decide (s.R.room<n)=false:=decide_eq_false hn
   go_enter Tryz.func135,Tryz.ntmps135
   go_wp2_with fail
   go_ret
   exact ⟨rfl,rfl⟩
  refine key.mono ?_
  rintro e w' ⟨rfl,rfl⟩
  exact ⟨_,0,rfl,.inl ⟨rfl,rfl⟩,⟨fun _=>by omega,fun _=>rfl⟩,PGo.refl H.out (Below.refl _ _)⟩
theorem begin1_any (p:ByteArray) (w:World):Calls Tryz.prog 137 #[.string p] w fun e w'=>e = .returned (.bool true)∧w'=w:=by
 go_enter Tryz.func137,Tryz.ntmps137
 go_wp2_with fail
 go_ret
 exact ⟨rfl,rfl⟩
end Go.Proofs.YtncigfibncmioaaGreatDoor
