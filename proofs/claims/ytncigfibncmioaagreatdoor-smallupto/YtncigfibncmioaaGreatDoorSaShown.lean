/-
  PROVED HERE: what does of the statements answers, of a store at rest; written by tools/gendoes.py.
-/
import Derived.Test.YtncigfibncmioaaGreatDoorSaCalls
import Derived.Test.YtncigfibncmioaaGreatDoorKCont
import Derived.Test.YtncigfibncmioaaGreatDoorKDecB
import Derived.Test.YtncigfibncmioaaGreatDoorBmTags
import Derived.Test.YtncigfibncmioaaGreatDoorSoLoad
namespace Go.Proofs.YtncigfibncmioaaGreatDoor
set_option maxHeartbeats 4000000
set_option maxRecDepth 100000
open Go.RowKit
section
variable {w:World} {db xb sb cb:Nat} {s:PSt} {tb:Nat} {cl:List (List Nat)} {A:Sto} {r:Int} {n cu:Nat}
theorem SA.later {w':World} (h:SA w db xb sb cb s tb cl A r n cu) (hb:Below w.heap.size w w'):SA w' db xb sb cb s tb cl A r n cu:=h.same (SGo.of_below hb) ((hb.block _ (lt_heap h.st)).trans h.st) (h.sw.later hb)
theorem SaN.pre {w1 w':World} {A':Sto} {m cv:Nat} (h:SaN w1 w' db xb sb cb s tb A' r m cv) (hb:Below w.heap.size w w1):SaN w w' db xb sb cb s tb A' r m cv:=by
 obtain ⟨s',tb',cl',h1,h2,h3⟩:=h
 exact ⟨s',tb',cl',(SGo.of_below hb).trans h1,h2.imp id (fun h=>Nat.le_trans hb.size h),h3⟩
theorem SaN.post {w1 w':World} {A':Sto} {m cv:Nat} (h:SaN w w1 db xb sb cb s tb A' r m cv) (hb:Below w1.heap.size w1 w'):SaN w w' db xb sb cb s tb A' r m cv:=by
 obtain ⟨s',tb',cl',h1,h2,h3⟩:=h
 exact ⟨s',tb',cl',h1.trans (SGo.of_below hb),h2,h3.later hb⟩
theorem hashK (b:ByteArray) (w:World) (hb:b.size≤300) (hg:Gl w):Calls Tryz.prog 35 #[.string b] w fun e w'=>e = .returned (.string (hxB b))∧Below w.heap.size w w':=hash_any b w (by omega) hg.hk
def dsPl (A:Sto) (K N B:Int):Pl:=match pickN K 8 with
 | 0=>putPl A (conT B)
 | 1=>putPl A (conT B)
 | 2=>tagPl A (nmT N) (conT B)
 | 3=>untPl A (nmT N)
 | 4=>pubPl A (nmT N) (conT B)
 | 5=>pubPl A (nmT N) (conT B)
 | 6=>delPl A (conT B)
 | _=>pruPl A
def i64r (x:Int):Prop := -9223372036854775808≤x∧x≤9223372036854775807
theorem does_0 (h:SA w db xb sb cb s tb cl A r n cu) (hn:n≤300000) (hcu:cu≤90000000000) (K N B:Int) (hK:i64r K) (hN:i64r N) (hB:i64r B) (hk:pickN K 8=0) :
  Calls Tryz.prog 11 #[.pointer (some ⟨xb,0,none⟩),.agg #[.int .i64 K,.int .i64 N,.int .i64 B]] w fun e w'=>e = .returned (.tuple #[.string ((putPl A (conT B)).run r A).1,.int .i64 ((putPl A (conT B)).run r A).2.1])∧SaN w w' db xb sb cb s tb ((putPl A (conT B)).run r A).2.2 r (n+1) (cu+n+20):=by
 have hpk:∀ w,Calls Tryz.prog 21 #[.int .i64 K,.int .i64 8] w fun e w'=>e = .returned (.int .i64 0)∧w'=w:=fun w=>by
  have:=pick_any K 8 (by decide) (by decide) hK.1 hK.2 w
  rw [hk] at this
  exact this
 have HP:=hide hpk
 have HCT:=hide (fun w=>content_of B hB.1 hB.2 w)
 have HNM:Hid (∀ w,Calls Tryz.prog 37 #[.int .i64 N] w fun e w'=>e = .returned (.string (nmT N))∧Below w.heap.size w w'):=hide (fun w=>name_any N hN.1 hN.2 w)
 have hbs:=conT_size B
 have hns:=nmT_size N
 have hnt:=nmT_tag N
 generalize conT B=bb at HCT hbs ⊢
 generalize nmT N=nn at HNM hns hnt ⊢
 have HC:=hide (fun (W:World) (hW:SA W db xb sb cb s tb cl A r n cu)=>saPut hW hn hcu bb (by omega))
 generalize (putPl A bb).run r A=X at HC ⊢
 have hbo:Below w.heap.size w (w.alloc (.cells #[.int .i64 K,.int .i64 N,.int .i64 B] 31)):=(Below.refl _ _).alloc (Nat.le_refl _) _
 have hrow:(w.alloc (.cells #[.int .i64 K,.int .i64 N,.int .i64 B] 31)).heap[w.heap.size]? = some (.cells #[.int .i64 K,.int .i64 N,.int .i64 B] 31 (0,0)):=heap_alloc_new _ _
 obtain ⟨W,hW⟩ : ∃ W,W=w.alloc (.cells #[.int .i64 K,.int .i64 N,.int .i64 B] 31):=⟨_,rfl⟩
 rw [← hW] at hbo hrow
 have hs:=h.later hbo
 have c0:W.cell? ⟨w.heap.size,0,none⟩=some (.int .i64 K):=cell_of_row _ _ 0 _ _ _ hrow
 have c1:W.cell? ⟨w.heap.size,1,none⟩=some (.int .i64 N):=cell_of_row _ _ 1 _ _ _ hrow
 have c2:W.cell? ⟨w.heap.size,2,none⟩=some (.int .i64 B):=cell_of_row _ _ 2 _ _ _ hrow
 have HW:=hide hW
 have HBO:=hide hbo
 have HRW:=hide hrow
 have HS:=hide hs
 have HSZ:=hide (show ∀ k,s.own k∨sS xb sb cb k→k<w.heap.size from fun k hk=>by
  rcases hk with e|e|e|e
  ·exact h.sw.inn.lt e
  ·rw [e];exact lt_heap h.st
  ·rw [e];exact lt_heap h.sw.blk
  ·rw [e];exact h.sw.cm.lt)
 clear h hW hbo hrow hs hpk hK hN hB hk
 go_enter Tryz.func11,Tryz.ntmps11
 go_upto_region 1 with fail
 rw [← HW.out]
 go_wp2_with fail
 refine (HP.out _).mono ?_
 rintro _ w1 ⟨rfl,hw1⟩
 rw [hw1]
 dsimp only
 clear hw1
 go_wp2_with fail
 refine (HCT.out _).mono ?_
 rintro _ w2 ⟨rfl,hb2⟩
 dsimp only
 have HB2:=hide (HBO.out.trans (hb2.mono HBO.out.size))
 have HC2:=hide (HC.out w2 (HS.out.later hb2))
 clear hb2 c0 c1 c2 HC
 go_wp2_with fail
 refine (HC2.out).mono ?_
 rintro _ w3 ⟨rfl,hsn⟩
 dsimp only
 have HN:=hide (hsn.pre HB2.out)
 clear hsn HC2
 go_wp2_with fail
 refine bodyPost_ret (results_tmp2 rfl _ _ _) rfl ?_
 exact ⟨rfl,HN.out⟩
theorem does_1 (h:SA w db xb sb cb s tb cl A r n cu) (hn:n≤300000) (hcu:cu≤90000000000) (K N B:Int) (hK:i64r K) (hN:i64r N) (hB:i64r B) (hk:pickN K 8=1) :
  Calls Tryz.prog 11 #[.pointer (some ⟨xb,0,none⟩),.agg #[.int .i64 K,.int .i64 N,.int .i64 B]] w fun e w'=>e = .returned (.tuple #[.string ((putPl A (conT B)).run r A).1,.int .i64 ((putPl A (conT B)).run r A).2.1])∧SaN w w' db xb sb cb s tb ((putPl A (conT B)).run r A).2.2 r (n+1) (cu+n+20):=by
 have hpk:∀ w,Calls Tryz.prog 21 #[.int .i64 K,.int .i64 8] w fun e w'=>e = .returned (.int .i64 1)∧w'=w:=fun w=>by
  have:=pick_any K 8 (by decide) (by decide) hK.1 hK.2 w
  rw [hk] at this
  exact this
 have HP:=hide hpk
 have HCT:=hide (fun w=>content_of B hB.1 hB.2 w)
 have HNM:Hid (∀ w,Calls Tryz.prog 37 #[.int .i64 N] w fun e w'=>e = .returned (.string (nmT N))∧Below w.heap.size w w'):=hide (fun w=>name_any N hN.1 hN.2 w)
 have hbs:=conT_size B
 have hns:=nmT_size N
 have hnt:=nmT_tag N
 generalize conT B=bb at HCT hbs ⊢
 generalize nmT N=nn at HNM hns hnt ⊢
 have HC:=hide (fun (W:World) (hW:SA W db xb sb cb s tb cl A r n cu)=>saPut hW hn hcu bb (by omega))
 generalize (putPl A bb).run r A=X at HC ⊢
 have hbo:Below w.heap.size w (w.alloc (.cells #[.int .i64 K,.int .i64 N,.int .i64 B] 31)):=(Below.refl _ _).alloc (Nat.le_refl _) _
 have hrow:(w.alloc (.cells #[.int .i64 K,.int .i64 N,.int .i64 B] 31)).heap[w.heap.size]? = some (.cells #[.int .i64 K,.int .i64 N,.int .i64 B] 31 (0,0)):=heap_alloc_new _ _
 obtain ⟨W,hW⟩ : ∃ W,W=w.alloc (.cells #[.int .i64 K,.int .i64 N,.int .i64 B] 31):=⟨_,rfl⟩
 rw [← hW] at hbo hrow
 have hs:=h.later hbo
 have c0:W.cell? ⟨w.heap.size,0,none⟩=some (.int .i64 K):=cell_of_row _ _ 0 _ _ _ hrow
 have c1:W.cell? ⟨w.heap.size,1,none⟩=some (.int .i64 N):=cell_of_row _ _ 1 _ _ _ hrow
 have c2:W.cell? ⟨w.heap.size,2,none⟩=some (.int .i64 B):=cell_of_row _ _ 2 _ _ _ hrow
 have HW:=hide hW
 have HBO:=hide hbo
 have HRW:=hide hrow
 have HS:=hide hs
 have HSZ:=hide (show ∀ k,s.own k∨sS xb sb cb k→k<w.heap.size from fun k hk=>by
  rcases hk with e|e|e|e
  ·exact h.sw.inn.lt e
  ·rw [e];exact lt_heap h.st
  ·rw [e];exact lt_heap h.sw.blk
  ·rw [e];exact h.sw.cm.lt)
 clear h hW hbo hrow hs hpk hK hN hB hk
 go_enter Tryz.func11,Tryz.ntmps11
 go_upto_region 1 with fail
 rw [← HW.out]
 go_wp2_with fail
 refine (HP.out _).mono ?_
 rintro _ w1 ⟨rfl,hw1⟩
 rw [hw1]
 dsimp only
 clear hw1
 go_wp2_with fail
 refine (HCT.out _).mono ?_
 rintro _ w2 ⟨rfl,hb2⟩
 dsimp only
 have HB2:=hide (HBO.out.trans (hb2.mono HBO.out.size))
 have HC2:=hide (HC.out w2 (HS.out.later hb2))
 clear hb2 c0 c1 c2 HC
 go_wp2_with fail
 refine (HC2.out).mono ?_
 rintro _ w3 ⟨rfl,hsn⟩
 dsimp only
 have HN:=hide (hsn.pre HB2.out)
 clear hsn HC2
 go_wp2_with fail
 refine bodyPost_ret (results_tmp2 rfl _ _ _) rfl ?_
 exact ⟨rfl,HN.out⟩
theorem does_2 (h:SA w db xb sb cb s tb cl A r n cu) (hn:n≤300000) (hcu:cu≤90000000000) (K N B:Int) (hK:i64r K) (hN:i64r N) (hB:i64r B) (hk:pickN K 8=2) :
  Calls Tryz.prog 11 #[.pointer (some ⟨xb,0,none⟩),.agg #[.int .i64 K,.int .i64 N,.int .i64 B]] w fun e w'=>e = .returned (.tuple #[.string ((tagPl A (nmT N) (conT B)).run r A).1,.int .i64 ((tagPl A (nmT N) (conT B)).run r A).2.1])∧SaN w w' db xb sb cb s tb ((tagPl A (nmT N) (conT B)).run r A).2.2 r (n+1) (cu+n+20):=by
 have hpk:∀ w,Calls Tryz.prog 21 #[.int .i64 K,.int .i64 8] w fun e w'=>e = .returned (.int .i64 2)∧w'=w:=fun w=>by
  have:=pick_any K 8 (by decide) (by decide) hK.1 hK.2 w
  rw [hk] at this
  exact this
 have HP:=hide hpk
 have HCT:=hide (fun w=>content_of B hB.1 hB.2 w)
 have HNM:Hid (∀ w,Calls Tryz.prog 37 #[.int .i64 N] w fun e w'=>e = .returned (.string (nmT N))∧Below w.heap.size w w'):=hide (fun w=>name_any N hN.1 hN.2 w)
 have hbs:=conT_size B
 have hns:=nmT_size N
 have hnt:=nmT_tag N
 generalize conT B=bb at HCT hbs ⊢
 generalize nmT N=nn at HNM hns hnt ⊢
 have HC:=hide (fun (W:World) (hW:SA W db xb sb cb s tb cl A r n cu)=>saTag hW hn hcu nn bb (by omega) hnt (by omega))
 have HHS:=hide (fun (W:World) (hg:Gl W)=>hashK bb W (by omega) hg)
 generalize (tagPl A nn bb).run r A=X at HC ⊢
 generalize hxB bb=hh at HC HHS
 have hbo:Below w.heap.size w (w.alloc (.cells #[.int .i64 K,.int .i64 N,.int .i64 B] 31)):=(Below.refl _ _).alloc (Nat.le_refl _) _
 have hrow:(w.alloc (.cells #[.int .i64 K,.int .i64 N,.int .i64 B] 31)).heap[w.heap.size]? = some (.cells #[.int .i64 K,.int .i64 N,.int .i64 B] 31 (0,0)):=heap_alloc_new _ _
 obtain ⟨W,hW⟩ : ∃ W,W=w.alloc (.cells #[.int .i64 K,.int .i64 N,.int .i64 B] 31):=⟨_,rfl⟩
 rw [← hW] at hbo hrow
 have hs:=h.later hbo
 have c0:W.cell? ⟨w.heap.size,0,none⟩=some (.int .i64 K):=cell_of_row _ _ 0 _ _ _ hrow
 have c1:W.cell? ⟨w.heap.size,1,none⟩=some (.int .i64 N):=cell_of_row _ _ 1 _ _ _ hrow
 have c2:W.cell? ⟨w.heap.size,2,none⟩=some (.int .i64 B):=cell_of_row _ _ 2 _ _ _ hrow
 have HW:=hide hW
 have HBO:=hide hbo
 have HRW:=hide hrow
 have HS:=hide hs
 have HSZ:=hide (show ∀ k,s.own k∨sS xb sb cb k→k<w.heap.size from fun k hk=>by
  rcases hk with e|e|e|e
  ·exact h.sw.inn.lt e
  ·rw [e];exact lt_heap h.st
  ·rw [e];exact lt_heap h.sw.blk
  ·rw [e];exact h.sw.cm.lt)
 clear h hW hbo hrow hs hpk hK hN hB hk
 go_enter Tryz.func11,Tryz.ntmps11
 go_upto_region 1 with fail
 rw [← HW.out]
 go_wp2_with fail
 refine (HP.out _).mono ?_
 rintro _ w1 ⟨rfl,hw1⟩
 rw [hw1]
 dsimp only
 clear hw1
 go_wp2_with fail
 obtain ⟨bx,hbx⟩ : ∃ bx,bx=w.heap.size:=⟨_,rfl⟩
 rw [← hbx] at c1 c2 HRW ⊢
 have HBX:=hide hbx
 have hdr:Below W.heap.size W W.drew:=(Below.refl _ _).drew
 have hS0:W.drew.cell? ⟨bx,1,none⟩=some (.int .i64 N)∧W.drew.cell? ⟨bx,2,none⟩=some (.int .i64 B):=⟨cell_later hdr c1,cell_later hdr c2⟩
 have HC1:=hide c1
 have HC2:=hide c2
 clear hbx c0 c1 c2
 go_region_held3 (fun w'=>w'.cell? ⟨bx,1,none⟩=some (.int .i64 N)∧w'.cell? ⟨bx,2,none⟩=some (.int .i64 B)) (first|exact hS0|exact hS1|exact hS2|exact hS3|exact hS4|go_keep) ((first
  | (go_at_call 37;refine (HNM.out _).mono ?_;rintro _ w2 ⟨rfl,hb2⟩;have hbn:Below W.heap.size W w2:=hdr.trans hb2;have hS1:w2.cell? ⟨bx,1,none⟩=some (.int .i64 N)∧w2.cell? ⟨bx,2,none⟩=some (.int .i64 B):=⟨cell_later hbn HC1.out,cell_later hbn HC2.out⟩)
  | (go_at_call 31;refine (HCT.out _).mono ?_;rintro _ w3 ⟨rfl,hb3⟩;have hbc:Below W.heap.size W w3:=hbn.trans (hb3.mono hbn.size);have hS2:w3.cell? ⟨bx,1,none⟩=some (.int .i64 N)∧w3.cell? ⟨bx,2,none⟩=some (.int .i64 B):=⟨cell_later hbc HC1.out,cell_later hbc HC2.out⟩)
  | (go_at_call 35;refine (HHS.out _ (HS.out.later hbc).sw.gl).mono ?_;rintro _ w4 ⟨rfl,hb4⟩;have hbh:Below W.heap.size W w4:=hbc.trans (hb4.mono hbc.size);have hS3:w4.cell? ⟨bx,1,none⟩=some (.int .i64 N)∧w4.cell? ⟨bx,2,none⟩=some (.int .i64 B):=⟨cell_later hbh HC1.out,cell_later hbh HC2.out⟩)
  | (go_at_call 36;refine (HC.out _ (HS.out.later hbh)).mono ?_;rintro _ w5 ⟨h1,rfl,hsn⟩;have hsg:=hsn;obtain ⟨s9,tb9,cl9,hg9, -, -⟩:=hsg;have hr9:=(hg9.gr.block bx (Nat.lt_of_lt_of_le (lt_heap HRW.out) hbh.size) (fun e=>by have:=HSZ.out _ e;have:=HBX.out;omega)).trans ((hbh.block _ (lt_heap HRW.out)).trans HRW.out);have hS4:w5.cell? ⟨bx,1,none⟩=some (.int .i64 N)∧w5.cell? ⟨bx,2,none⟩=some (.int .i64 B):=⟨cell_of_row _ _ 1 _ _ _ hr9,cell_of_row _ _ 2 _ _ _ hr9⟩)))
 have HN:=hide (hsn.pre (HBO.out.trans (hbh.mono HBO.out.size)))
 have H1:=hide h1
 clear hsn h1 hg9 hr9 hS0 hS1 hS2 hS3 hS4 hb2 hb3 hb4 hbn hbc hbh HC hdr
 go_wp2_with fail
 refine bodyPost_ret (results_tmp2 rfl _ _ _) rfl ?_
 exact ⟨by rw [H1.out];rfl,HN.out⟩
theorem does_3 (h:SA w db xb sb cb s tb cl A r n cu) (hn:n≤300000) (hcu:cu≤90000000000) (K N B:Int) (hK:i64r K) (hN:i64r N) (hB:i64r B) (hk:pickN K 8=3) :
  Calls Tryz.prog 11 #[.pointer (some ⟨xb,0,none⟩),.agg #[.int .i64 K,.int .i64 N,.int .i64 B]] w fun e w'=>e = .returned (.tuple #[.string ((untPl A (nmT N)).run r A).1,.int .i64 ((untPl A (nmT N)).run r A).2.1])∧SaN w w' db xb sb cb s tb ((untPl A (nmT N)).run r A).2.2 r (n+1) (cu+n+20):=by
 have hpk:∀ w,Calls Tryz.prog 21 #[.int .i64 K,.int .i64 8] w fun e w'=>e = .returned (.int .i64 3)∧w'=w:=fun w=>by
  have:=pick_any K 8 (by decide) (by decide) hK.1 hK.2 w
  rw [hk] at this
  exact this
 have HP:=hide hpk
 have HCT:=hide (fun w=>content_of B hB.1 hB.2 w)
 have HNM:Hid (∀ w,Calls Tryz.prog 37 #[.int .i64 N] w fun e w'=>e = .returned (.string (nmT N))∧Below w.heap.size w w'):=hide (fun w=>name_any N hN.1 hN.2 w)
 have hbs:=conT_size B
 have hns:=nmT_size N
 have hnt:=nmT_tag N
 generalize conT B=bb at HCT hbs ⊢
 generalize nmT N=nn at HNM hns hnt ⊢
 have HC:=hide (fun (W:World) (hW:SA W db xb sb cb s tb cl A r n cu)=>saUntag hW hn hcu nn (by omega) hnt)
 generalize (untPl A nn).run r A=X at HC ⊢
 have hbo:Below w.heap.size w (w.alloc (.cells #[.int .i64 K,.int .i64 N,.int .i64 B] 31)):=(Below.refl _ _).alloc (Nat.le_refl _) _
 have hrow:(w.alloc (.cells #[.int .i64 K,.int .i64 N,.int .i64 B] 31)).heap[w.heap.size]? = some (.cells #[.int .i64 K,.int .i64 N,.int .i64 B] 31 (0,0)):=heap_alloc_new _ _
 obtain ⟨W,hW⟩ : ∃ W,W=w.alloc (.cells #[.int .i64 K,.int .i64 N,.int .i64 B] 31):=⟨_,rfl⟩
 rw [← hW] at hbo hrow
 have hs:=h.later hbo
 have c0:W.cell? ⟨w.heap.size,0,none⟩=some (.int .i64 K):=cell_of_row _ _ 0 _ _ _ hrow
 have c1:W.cell? ⟨w.heap.size,1,none⟩=some (.int .i64 N):=cell_of_row _ _ 1 _ _ _ hrow
 have c2:W.cell? ⟨w.heap.size,2,none⟩=some (.int .i64 B):=cell_of_row _ _ 2 _ _ _ hrow
 have HW:=hide hW
 have HBO:=hide hbo
 have HRW:=hide hrow
 have HS:=hide hs
 have HSZ:=hide (show ∀ k,s.own k∨sS xb sb cb k→k<w.heap.size from fun k hk=>by
  rcases hk with e|e|e|e
  ·exact h.sw.inn.lt e
  ·rw [e];exact lt_heap h.st
  ·rw [e];exact lt_heap h.sw.blk
  ·rw [e];exact h.sw.cm.lt)
 clear h hW hbo hrow hs hpk hK hN hB hk
 go_enter Tryz.func11,Tryz.ntmps11
 go_upto_region 1 with fail
 rw [← HW.out]
 go_wp2_with fail
 refine (HP.out _).mono ?_
 rintro _ w1 ⟨rfl,hw1⟩
 rw [hw1]
 dsimp only
 clear hw1
 go_wp2_with fail
 refine (HNM.out _).mono ?_
 rintro _ w2 ⟨rfl,hb2⟩
 dsimp only
 have HB2:=hide (HBO.out.trans (hb2.mono HBO.out.size))
 have HC2:=hide (HC.out w2 (HS.out.later hb2))
 clear hb2 c0 c1 c2 HC
 go_wp2_with fail
 refine (HC2.out).mono ?_
 rintro _ w3 ⟨h1,rfl,hsn⟩
 dsimp only
 have HN:=hide (hsn.pre HB2.out)
 have H1:=hide h1
 clear hsn HC2 h1
 go_wp2_with fail
 refine bodyPost_ret (results_tmp2 rfl _ _ _) rfl ?_
 exact ⟨by rw [H1.out];rfl,HN.out⟩
theorem does_4 (h:SA w db xb sb cb s tb cl A r n cu) (hn:n≤300000) (hcu:cu≤90000000000) (K N B:Int) (hK:i64r K) (hN:i64r N) (hB:i64r B) (hk:pickN K 8=4) :
  Calls Tryz.prog 11 #[.pointer (some ⟨xb,0,none⟩),.agg #[.int .i64 K,.int .i64 N,.int .i64 B]] w fun e w'=>e = .returned (.tuple #[.string ((pubPl A (nmT N) (conT B)).run r A).1,.int .i64 ((pubPl A (nmT N) (conT B)).run r A).2.1])∧SaN w w' db xb sb cb s tb ((pubPl A (nmT N) (conT B)).run r A).2.2 r (n+1) (cu+n+20):=by
 have hpk:∀ w,Calls Tryz.prog 21 #[.int .i64 K,.int .i64 8] w fun e w'=>e = .returned (.int .i64 4)∧w'=w:=fun w=>by
  have:=pick_any K 8 (by decide) (by decide) hK.1 hK.2 w
  rw [hk] at this
  exact this
 have HP:=hide hpk
 have HCT:=hide (fun w=>content_of B hB.1 hB.2 w)
 have HNM:Hid (∀ w,Calls Tryz.prog 37 #[.int .i64 N] w fun e w'=>e = .returned (.string (nmT N))∧Below w.heap.size w w'):=hide (fun w=>name_any N hN.1 hN.2 w)
 have hbs:=conT_size B
 have hns:=nmT_size N
 have hnt:=nmT_tag N
 generalize conT B=bb at HCT hbs ⊢
 generalize nmT N=nn at HNM hns hnt ⊢
 have HC:=hide (fun (W:World) (hW:SA W db xb sb cb s tb cl A r n cu)=>saPub hW hn hcu nn bb (by omega) hnt (by omega))
 generalize (pubPl A nn bb).run r A=X at HC ⊢
 have hbo:Below w.heap.size w (w.alloc (.cells #[.int .i64 K,.int .i64 N,.int .i64 B] 31)):=(Below.refl _ _).alloc (Nat.le_refl _) _
 have hrow:(w.alloc (.cells #[.int .i64 K,.int .i64 N,.int .i64 B] 31)).heap[w.heap.size]? = some (.cells #[.int .i64 K,.int .i64 N,.int .i64 B] 31 (0,0)):=heap_alloc_new _ _
 obtain ⟨W,hW⟩ : ∃ W,W=w.alloc (.cells #[.int .i64 K,.int .i64 N,.int .i64 B] 31):=⟨_,rfl⟩
 rw [← hW] at hbo hrow
 have hs:=h.later hbo
 have c0:W.cell? ⟨w.heap.size,0,none⟩=some (.int .i64 K):=cell_of_row _ _ 0 _ _ _ hrow
 have c1:W.cell? ⟨w.heap.size,1,none⟩=some (.int .i64 N):=cell_of_row _ _ 1 _ _ _ hrow
 have c2:W.cell? ⟨w.heap.size,2,none⟩=some (.int .i64 B):=cell_of_row _ _ 2 _ _ _ hrow
 have HW:=hide hW
 have HBO:=hide hbo
 have HRW:=hide hrow
 have HS:=hide hs
 have HSZ:=hide (show ∀ k,s.own k∨sS xb sb cb k→k<w.heap.size from fun k hk=>by
  rcases hk with e|e|e|e
  ·exact h.sw.inn.lt e
  ·rw [e];exact lt_heap h.st
  ·rw [e];exact lt_heap h.sw.blk
  ·rw [e];exact h.sw.cm.lt)
 clear h hW hbo hrow hs hpk hK hN hB hk
 go_enter Tryz.func11,Tryz.ntmps11
 go_upto_region 1 with fail
 rw [← HW.out]
 go_wp2_with fail
 refine (HP.out _).mono ?_
 rintro _ w1 ⟨rfl,hw1⟩
 rw [hw1]
 dsimp only
 clear hw1
 go_wp2_with fail
 obtain ⟨bx,hbx⟩ : ∃ bx,bx=w.heap.size:=⟨_,rfl⟩
 rw [← hbx] at c1 c2 HRW ⊢
 have HBX:=hide hbx
 have hdr:Below W.heap.size W W.drew:=(Below.refl _ _).drew
 have hS0:W.drew.cell? ⟨bx,1,none⟩=some (.int .i64 N)∧W.drew.cell? ⟨bx,2,none⟩=some (.int .i64 B):=⟨cell_later hdr c1,cell_later hdr c2⟩
 have HC1:=hide c1
 have HC2:=hide c2
 clear hbx c0 c1 c2
 go_region_held3 (fun w'=>w'.cell? ⟨bx,1,none⟩=some (.int .i64 N)∧w'.cell? ⟨bx,2,none⟩=some (.int .i64 B)) (first|exact hS0|exact hS1|exact hS2|exact hS3|exact hS4|go_keep) ((first
  | (go_at_call 37;refine (HNM.out _).mono ?_;rintro _ w2 ⟨rfl,hb2⟩;have hbn:Below W.heap.size W w2:=hdr.trans hb2;have hS1:w2.cell? ⟨bx,1,none⟩=some (.int .i64 N)∧w2.cell? ⟨bx,2,none⟩=some (.int .i64 B):=⟨cell_later hbn HC1.out,cell_later hbn HC2.out⟩)
  | (go_at_call 31;refine (HCT.out _).mono ?_;rintro _ w3 ⟨rfl,hb3⟩;have hbc:Below W.heap.size W w3:=hbn.trans (hb3.mono hbn.size);have hS2:w3.cell? ⟨bx,1,none⟩=some (.int .i64 N)∧w3.cell? ⟨bx,2,none⟩=some (.int .i64 B):=⟨cell_later hbc HC1.out,cell_later hbc HC2.out⟩)
  | (go_at_call 25;refine (HC.out _ (HS.out.later hbc)).mono ?_;rintro _ w5 ⟨rfl,hsn⟩;have hsg:=hsn;obtain ⟨s9,tb9,cl9,hg9, -, -⟩:=hsg;have hr9:=(hg9.gr.block bx (Nat.lt_of_lt_of_le (lt_heap HRW.out) hbc.size) (fun e=>by have:=HSZ.out _ e;have:=HBX.out;omega)).trans ((hbc.block _ (lt_heap HRW.out)).trans HRW.out);have hS3:w5.cell? ⟨bx,1,none⟩=some (.int .i64 N)∧w5.cell? ⟨bx,2,none⟩=some (.int .i64 B):=⟨cell_of_row _ _ 1 _ _ _ hr9,cell_of_row _ _ 2 _ _ _ hr9⟩)))
 have HN:=hide (hsn.pre (HBO.out.trans (hbc.mono HBO.out.size)))
 clear hsn hg9 hr9 hS0 hS1 hS2 hS3 hb2 hb3 hbn hbc HC hdr
 go_wp2_with fail
 refine bodyPost_ret (results_tmp2 rfl _ _ _) rfl ?_
 exact ⟨rfl,HN.out⟩
theorem does_5 (h:SA w db xb sb cb s tb cl A r n cu) (hn:n≤300000) (hcu:cu≤90000000000) (K N B:Int) (hK:i64r K) (hN:i64r N) (hB:i64r B) (hk:pickN K 8=5) :
  Calls Tryz.prog 11 #[.pointer (some ⟨xb,0,none⟩),.agg #[.int .i64 K,.int .i64 N,.int .i64 B]] w fun e w'=>e = .returned (.tuple #[.string ((pubPl A (nmT N) (conT B)).run r A).1,.int .i64 ((pubPl A (nmT N) (conT B)).run r A).2.1])∧SaN w w' db xb sb cb s tb ((pubPl A (nmT N) (conT B)).run r A).2.2 r (n+1) (cu+n+20):=by
 have hpk:∀ w,Calls Tryz.prog 21 #[.int .i64 K,.int .i64 8] w fun e w'=>e = .returned (.int .i64 5)∧w'=w:=fun w=>by
  have:=pick_any K 8 (by decide) (by decide) hK.1 hK.2 w
  rw [hk] at this
  exact this
 have HP:=hide hpk
 have HCT:=hide (fun w=>content_of B hB.1 hB.2 w)
 have HNM:Hid (∀ w,Calls Tryz.prog 37 #[.int .i64 N] w fun e w'=>e = .returned (.string (nmT N))∧Below w.heap.size w w'):=hide (fun w=>name_any N hN.1 hN.2 w)
 have hbs:=conT_size B
 have hns:=nmT_size N
 have hnt:=nmT_tag N
 generalize conT B=bb at HCT hbs ⊢
 generalize nmT N=nn at HNM hns hnt ⊢
 have HC:=hide (fun (W:World) (hW:SA W db xb sb cb s tb cl A r n cu)=>saPub hW hn hcu nn bb (by omega) hnt (by omega))
 generalize (pubPl A nn bb).run r A=X at HC ⊢
 have hbo:Below w.heap.size w (w.alloc (.cells #[.int .i64 K,.int .i64 N,.int .i64 B] 31)):=(Below.refl _ _).alloc (Nat.le_refl _) _
 have hrow:(w.alloc (.cells #[.int .i64 K,.int .i64 N,.int .i64 B] 31)).heap[w.heap.size]? = some (.cells #[.int .i64 K,.int .i64 N,.int .i64 B] 31 (0,0)):=heap_alloc_new _ _
 obtain ⟨W,hW⟩ : ∃ W,W=w.alloc (.cells #[.int .i64 K,.int .i64 N,.int .i64 B] 31):=⟨_,rfl⟩
 rw [← hW] at hbo hrow
 have hs:=h.later hbo
 have c0:W.cell? ⟨w.heap.size,0,none⟩=some (.int .i64 K):=cell_of_row _ _ 0 _ _ _ hrow
 have c1:W.cell? ⟨w.heap.size,1,none⟩=some (.int .i64 N):=cell_of_row _ _ 1 _ _ _ hrow
 have c2:W.cell? ⟨w.heap.size,2,none⟩=some (.int .i64 B):=cell_of_row _ _ 2 _ _ _ hrow
 have HW:=hide hW
 have HBO:=hide hbo
 have HRW:=hide hrow
 have HS:=hide hs
 have HSZ:=hide (show ∀ k,s.own k∨sS xb sb cb k→k<w.heap.size from fun k hk=>by
  rcases hk with e|e|e|e
  ·exact h.sw.inn.lt e
  ·rw [e];exact lt_heap h.st
  ·rw [e];exact lt_heap h.sw.blk
  ·rw [e];exact h.sw.cm.lt)
 clear h hW hbo hrow hs hpk hK hN hB hk
 go_enter Tryz.func11,Tryz.ntmps11
 go_upto_region 1 with fail
 rw [← HW.out]
 go_wp2_with fail
 refine (HP.out _).mono ?_
 rintro _ w1 ⟨rfl,hw1⟩
 rw [hw1]
 dsimp only
 clear hw1
 go_wp2_with fail
 obtain ⟨bx,hbx⟩ : ∃ bx,bx=w.heap.size:=⟨_,rfl⟩
 rw [← hbx] at c1 c2 HRW ⊢
 have HBX:=hide hbx
 have hdr:Below W.heap.size W W.drew:=(Below.refl _ _).drew
 have hS0:W.drew.cell? ⟨bx,1,none⟩=some (.int .i64 N)∧W.drew.cell? ⟨bx,2,none⟩=some (.int .i64 B):=⟨cell_later hdr c1,cell_later hdr c2⟩
 have HC1:=hide c1
 have HC2:=hide c2
 clear hbx c0 c1 c2
 go_region_held3 (fun w'=>w'.cell? ⟨bx,1,none⟩=some (.int .i64 N)∧w'.cell? ⟨bx,2,none⟩=some (.int .i64 B)) (first|exact hS0|exact hS1|exact hS2|exact hS3|exact hS4|go_keep) ((first
  | (go_at_call 37;refine (HNM.out _).mono ?_;rintro _ w2 ⟨rfl,hb2⟩;have hbn:Below W.heap.size W w2:=hdr.trans hb2;have hS1:w2.cell? ⟨bx,1,none⟩=some (.int .i64 N)∧w2.cell? ⟨bx,2,none⟩=some (.int .i64 B):=⟨cell_later hbn HC1.out,cell_later hbn HC2.out⟩)
  | (go_at_call 31;refine (HCT.out _).mono ?_;rintro _ w3 ⟨rfl,hb3⟩;have hbc:Below W.heap.size W w3:=hbn.trans (hb3.mono hbn.size);have hS2:w3.cell? ⟨bx,1,none⟩=some (.int .i64 N)∧w3.cell? ⟨bx,2,none⟩=some (.int .i64 B):=⟨cell_later hbc HC1.out,cell_later hbc HC2.out⟩)
  | (go_at_call 25;refine (HC.out _ (HS.out.later hbc)).mono ?_;rintro _ w5 ⟨rfl,hsn⟩;have hsg:=hsn;obtain ⟨s9,tb9,cl9,hg9, -, -⟩:=hsg;have hr9:=(hg9.gr.block bx (Nat.lt_of_lt_of_le (lt_heap HRW.out) hbc.size) (fun e=>by have:=HSZ.out _ e;have:=HBX.out;omega)).trans ((hbc.block _ (lt_heap HRW.out)).trans HRW.out);have hS3:w5.cell? ⟨bx,1,none⟩=some (.int .i64 N)∧w5.cell? ⟨bx,2,none⟩=some (.int .i64 B):=⟨cell_of_row _ _ 1 _ _ _ hr9,cell_of_row _ _ 2 _ _ _ hr9⟩)))
 have HN:=hide (hsn.pre (HBO.out.trans (hbc.mono HBO.out.size)))
 clear hsn hg9 hr9 hS0 hS1 hS2 hS3 hb2 hb3 hbn hbc HC hdr
 go_wp2_with fail
 refine bodyPost_ret (results_tmp2 rfl _ _ _) rfl ?_
 exact ⟨rfl,HN.out⟩
theorem does_6 (h:SA w db xb sb cb s tb cl A r n cu) (hn:n≤300000) (hcu:cu≤90000000000) (K N B:Int) (hK:i64r K) (hN:i64r N) (hB:i64r B) (hk:pickN K 8=6) :
  Calls Tryz.prog 11 #[.pointer (some ⟨xb,0,none⟩),.agg #[.int .i64 K,.int .i64 N,.int .i64 B]] w fun e w'=>e = .returned (.tuple #[.string ((delPl A (conT B)).run r A).1,.int .i64 ((delPl A (conT B)).run r A).2.1])∧SaN w w' db xb sb cb s tb ((delPl A (conT B)).run r A).2.2 r (n+1) (cu+n+20):=by
 have hpk:∀ w,Calls Tryz.prog 21 #[.int .i64 K,.int .i64 8] w fun e w'=>e = .returned (.int .i64 6)∧w'=w:=fun w=>by
  have:=pick_any K 8 (by decide) (by decide) hK.1 hK.2 w
  rw [hk] at this
  exact this
 have HP:=hide hpk
 have HCT:=hide (fun w=>content_of B hB.1 hB.2 w)
 have HNM:Hid (∀ w,Calls Tryz.prog 37 #[.int .i64 N] w fun e w'=>e = .returned (.string (nmT N))∧Below w.heap.size w w'):=hide (fun w=>name_any N hN.1 hN.2 w)
 have hbs:=conT_size B
 have hns:=nmT_size N
 have hnt:=nmT_tag N
 generalize conT B=bb at HCT hbs ⊢
 generalize nmT N=nn at HNM hns hnt ⊢
 have HC:=hide (fun (W:World) (hW:SA W db xb sb cb s tb cl A r n cu)=>saDel hW hn hcu bb)
 have HHS:=hide (fun (W:World) (hg:Gl W)=>hashK bb W (by omega) hg)
 generalize (delPl A bb).run r A=X at HC ⊢
 generalize hxB bb=hh at HC HHS
 have hbo:Below w.heap.size w (w.alloc (.cells #[.int .i64 K,.int .i64 N,.int .i64 B] 31)):=(Below.refl _ _).alloc (Nat.le_refl _) _
 have hrow:(w.alloc (.cells #[.int .i64 K,.int .i64 N,.int .i64 B] 31)).heap[w.heap.size]? = some (.cells #[.int .i64 K,.int .i64 N,.int .i64 B] 31 (0,0)):=heap_alloc_new _ _
 obtain ⟨W,hW⟩ : ∃ W,W=w.alloc (.cells #[.int .i64 K,.int .i64 N,.int .i64 B] 31):=⟨_,rfl⟩
 rw [← hW] at hbo hrow
 have hs:=h.later hbo
 have c0:W.cell? ⟨w.heap.size,0,none⟩=some (.int .i64 K):=cell_of_row _ _ 0 _ _ _ hrow
 have c1:W.cell? ⟨w.heap.size,1,none⟩=some (.int .i64 N):=cell_of_row _ _ 1 _ _ _ hrow
 have c2:W.cell? ⟨w.heap.size,2,none⟩=some (.int .i64 B):=cell_of_row _ _ 2 _ _ _ hrow
 have HW:=hide hW
 have HBO:=hide hbo
 have HRW:=hide hrow
 have HS:=hide hs
 have HSZ:=hide (show ∀ k,s.own k∨sS xb sb cb k→k<w.heap.size from fun k hk=>by
  rcases hk with e|e|e|e
  ·exact h.sw.inn.lt e
  ·rw [e];exact lt_heap h.st
  ·rw [e];exact lt_heap h.sw.blk
  ·rw [e];exact h.sw.cm.lt)
 clear h hW hbo hrow hs hpk hK hN hB hk
 go_enter Tryz.func11,Tryz.ntmps11
 go_upto_region 1 with fail
 rw [← HW.out]
 go_wp2_with fail
 refine (HP.out _).mono ?_
 rintro _ w1 ⟨rfl,hw1⟩
 rw [hw1]
 dsimp only
 clear hw1
 go_wp2_with fail
 refine (HCT.out _).mono ?_
 rintro _ w2 ⟨rfl,hb2⟩
 dsimp only
 have hs2:=HS.out.later hb2
 have HB2:=hide (HBO.out.trans (hb2.mono HBO.out.size))
 have HH2:=hide (HHS.out w2 hs2.sw.gl)
 have HS2:=hide hs2
 clear hb2 c0 c1 c2 hs2
 go_wp2_with fail
 refine (HH2.out).mono ?_
 rintro _ w4 ⟨rfl,hb4⟩
 dsimp only
 have HB4:=hide (HB2.out.trans (hb4.mono HB2.out.size))
 have HC2:=hide (HC.out w4 (HS2.out.later hb4))
 clear hb4 HC HH2
 go_wp2_with fail
 refine (HC2.out).mono ?_
 rintro _ w3 ⟨h1,rfl,hsn⟩
 dsimp only
 have HN:=hide (hsn.pre HB4.out)
 have H1:=hide h1
 clear hsn HC2 h1
 go_wp2_with fail
 refine bodyPost_ret (results_tmp2 rfl _ _ _) rfl ?_
 exact ⟨by rw [H1.out];rfl,HN.out⟩
theorem does_7 (h:SA w db xb sb cb s tb cl A r n cu) (hn:n≤300000) (hcu:cu≤90000000000) (K N B:Int) (hK:i64r K) (hN:i64r N) (hB:i64r B) (hk:pickN K 8=7) :
  Calls Tryz.prog 11 #[.pointer (some ⟨xb,0,none⟩),.agg #[.int .i64 K,.int .i64 N,.int .i64 B]] w fun e w'=>e = .returned (.tuple #[.string ((pruPl A).run r A).1,.int .i64 ((pruPl A).run r A).2.1])∧SaN w w' db xb sb cb s tb ((pruPl A).run r A).2.2 r (n+1) (cu+n+20):=by
 have hpk:∀ w,Calls Tryz.prog 21 #[.int .i64 K,.int .i64 8] w fun e w'=>e = .returned (.int .i64 7)∧w'=w:=fun w=>by
  have:=pick_any K 8 (by decide) (by decide) hK.1 hK.2 w
  rw [hk] at this
  exact this
 have HP:=hide hpk
 have HCT:=hide (fun w=>content_of B hB.1 hB.2 w)
 have HNM:Hid (∀ w,Calls Tryz.prog 37 #[.int .i64 N] w fun e w'=>e = .returned (.string (nmT N))∧Below w.heap.size w w'):=hide (fun w=>name_any N hN.1 hN.2 w)
 have hbs:=conT_size B
 have hns:=nmT_size N
 have hnt:=nmT_tag N
 generalize conT B=bb at HCT hbs ⊢
 generalize nmT N=nn at HNM hns hnt ⊢
 have hun:untN A≤1000000:=by
  have h1:(unT A.tg (dlA A)).length≤(dlA A).length:=List.length_filter_le _ _
  have h2:(dlA A).length=A.cs.length:=List.length_map _
  have:=h.len
  unfold untN
  omega
 have HC:=hide (fun (W:World) (hW:SA W db xb sb cb s tb cl A r n cu)=>saPrune hW hn hcu)
 have HDC:=hide (fun W=>decimalB_any (untN A) hun W)
 generalize hUN:untN A=un at HC HDC hun
 clear hUN
 generalize (pruPl A).run r A=X at HC ⊢
 have hbo:Below w.heap.size w (w.alloc (.cells #[.int .i64 K,.int .i64 N,.int .i64 B] 31)):=(Below.refl _ _).alloc (Nat.le_refl _) _
 have hrow:(w.alloc (.cells #[.int .i64 K,.int .i64 N,.int .i64 B] 31)).heap[w.heap.size]? = some (.cells #[.int .i64 K,.int .i64 N,.int .i64 B] 31 (0,0)):=heap_alloc_new _ _
 obtain ⟨W,hW⟩ : ∃ W,W=w.alloc (.cells #[.int .i64 K,.int .i64 N,.int .i64 B] 31):=⟨_,rfl⟩
 rw [← hW] at hbo hrow
 have hs:=h.later hbo
 have c0:W.cell? ⟨w.heap.size,0,none⟩=some (.int .i64 K):=cell_of_row _ _ 0 _ _ _ hrow
 have c1:W.cell? ⟨w.heap.size,1,none⟩=some (.int .i64 N):=cell_of_row _ _ 1 _ _ _ hrow
 have c2:W.cell? ⟨w.heap.size,2,none⟩=some (.int .i64 B):=cell_of_row _ _ 2 _ _ _ hrow
 have HW:=hide hW
 have HBO:=hide hbo
 have HRW:=hide hrow
 have HS:=hide hs
 have HSZ:=hide (show ∀ k,s.own k∨sS xb sb cb k→k<w.heap.size from fun k hk=>by
  rcases hk with e|e|e|e
  ·exact h.sw.inn.lt e
  ·rw [e];exact lt_heap h.st
  ·rw [e];exact lt_heap h.sw.blk
  ·rw [e];exact h.sw.cm.lt)
 clear h hW hbo hrow hs hpk hK hN hB hk
 go_enter Tryz.func11,Tryz.ntmps11
 go_upto_region 1 with fail
 rw [← HW.out]
 go_wp2_with fail
 refine (HP.out _).mono ?_
 rintro _ w1 ⟨rfl,hw1⟩
 rw [hw1]
 dsimp only
 clear hw1
 go_wp2_with fail
 refine (HC.out W HS.out).mono ?_
 rintro _ w2 ⟨hX,rfl,hsn⟩
 dsimp only
 have HN:=hide (hsn.pre HBO.out)
 have HX:=hide hX
 clear hsn hX c0 c1 c2 HC
 go_wp2_with fail
 refine (HDC.out _).mono ?_
 rintro _ w3 ⟨rfl,hb3⟩
 dsimp only
 have HN3:=hide (HN.out.post hb3)
 clear hb3 HDC
 go_wp2_with fail
 refine bodyPost_ret (results_tmp2 rfl _ _ _) rfl ?_
 exact ⟨by rw [HX.out];rfl,HN3.out⟩
theorem does_any (h:SA w db xb sb cb s tb cl A r n cu) (hn:n≤300000) (hcu:cu≤90000000000) (K N B:Int) (hK:i64r K) (hN:i64r N) (hB:i64r B) :
  Calls Tryz.prog 11 #[.pointer (some ⟨xb,0,none⟩),.agg #[.int .i64 K,.int .i64 N,.int .i64 B]] w fun e w'=>e = .returned (.tuple #[.string ((dsPl A K N B).run r A).1,.int .i64 ((dsPl A K N B).run r A).2.1])∧SaN w w' db xb sb cb s tb ((dsPl A K N B).run r A).2.2 r (n+1) (cu+n+20):=by
 have h8:=pickN_lt K 8 (by decide)
 unfold dsPl
 match hk:pickN K 8,h8 with
 | 0,_=>exact does_0 h hn hcu K N B hK hN hB hk
 | 1,_=>exact does_1 h hn hcu K N B hK hN hB hk
 | 2,_=>exact does_2 h hn hcu K N B hK hN hB hk
 | 3,_=>exact does_3 h hn hcu K N B hK hN hB hk
 | 4,_=>exact does_4 h hn hcu K N B hK hN hB hk
 | 5,_=>exact does_5 h hn hcu K N B hK hN hB hk
 | 6,_=>exact does_6 h hn hcu K N B hK hN hB hk
 | 7,_=>exact does_7 h hn hcu K N B hK hN hB hk
end
end Go.Proofs.YtncigfibncmioaaGreatDoor
namespace Go.Proofs.YtncigfibncmioaaGreatDoor
open Go.RowKit
structure DQ (w:World) (d:Nat) (s:PSt) (A:Sto) (r:Int) (n cu:Nat):Prop where
 dk:DkW w d s
 rq:Rq s.ds A r
 c0:0≤s.ds.R.count
 c1:s.ds.R.count≤(cu:Int)
 len:A.cs.length≤n
 good:GoodA A
 use:(szA A:Int)≤r
 r0:0≤r
 r1:r≤9223372036854775807
theorem DFit.ofOff {D:DS} {L C B:Nat} (h:DFit (offL D) L C B) (l0 : -1≤D.R.left) (l1:D.R.left≤9223372036854775807):DFit D L C B :=
 ⟨h.len,h.c0,h.c1,l0,l1,h.r0,h.r1,h.dat,h.chf,⟨h.inv.go,h.inv.ne⟩,h.inow,h.isafe,h.ichg,h.rise⟩
theorem offL_self {D:DS} (h:D.R.left = -1):offL D=D:=by
 obtain ⟨⟨room,now,safe,chg,count,left⟩,fs,fd⟩:=D
 simp only at h
 subst h
 rfl
section
variable {w:World} {d:Nat} {s:PSt} {A:Sto} {r:Int} {n cu:Nat}
theorem DQ.fit (h:DQ w d s A r n cu):DFit s.ds (n+3) cu 2000 :=
 DFit.ofOff ((h.rq.rst.fit (C:=cu) h.c0 h.c1 h.r0 h.r1).mono (by rw [fA_len];have:=h.len;omega) (Nat.le_refl _) (Nat.le_refl _)) h.rq.l0 h.rq.l1
theorem DQ.small (h:DQ w d s A r n cu):∀ e∈s.R.now,e.path.size≤80:=fun e he=>by
 have hv:s.ds.R.now.map (vwE s.ds.fd)=fA A:=h.rq.vw
 have hm:vwE s.fd e∈fA A:=by rw [← hv];exact List.mem_map_of_mem he
 have:=fA_path hm
 exact path_size this
theorem SA.dq {db xb sb cb tb:Nat} {cl:List (List Nat)} (h:SA w db xb sb cb s tb cl A r n cu):DQ w db s A r n cu :=
 ⟨h.dk,⟨by rw [offL_self h.rst.wh.left];exact h.rst,by rw [h.rst.wh.left];decide,by rw [h.rst.wh.left];decide⟩,h.c0,h.c1,h.len,h.good,h.use,h.r0,h.r1⟩
theorem DQ.go {w':World} (h:DQ w d s A r n cu) (hg:PGo s s w w'):DQ w' d s A r n cu:=⟨h.dk.go hg,h.rq,h.c0,h.c1,h.len,h.good,h.use,h.r0,h.r1⟩
theorem bCrash_inv (s:PSt) (d:Nat) (paths:Int) (kv:Value) (ks:List Int) (w:World) {L C B:Nat} (h:DkW w d s) (hk:KAt s.own w kv ks) (hf:DFit s.ds L C B) (hL:L≤1000000) (hB:B≤1000000) :
  Calls Tryz.prog 16 #[.pointer (some ⟨d,0,none⟩),.int .i64 paths,kv] w fun e w'=>e = .returned (.int .i64 0)∧∃ s',PGo s s' w w'∧s'.ds=crD s.ds (nCr paths s.R.chg.length) ks:=by
 have hLe:(s.R.chg.take (nCr paths s.R.chg.length)).foldl applyE s.R.safe=goE s.R.safe (s.R.chg.take (nCr paths s.R.chg.length)):=goE_apply _ hf.inv.ne
 refine wCrash d s.b paths kv (fun w'=>∃ s',PGo s s' w w'∧s'.ds=crD s.ds (nCr paths s.R.chg.length) ks) w h.bd ((pdCrash s paths kv ks w h.inn hk ⟨?_,hf.chf,fun f hf'=>?_⟩ _ hLe.symm ?_).mono ?_)
 ·have:=hf.len
  show s.R.safe.length+s.R.chg.length≤100000000
  have:s.R.safe.length+s.R.chg.length≤L:=this
  omega
 ·obtain ⟨a,b,c⟩:=hf.dat f hf'
  exact ⟨by have:(s.fd f).1.size≤B:=a;omega,b,c⟩
 ·intro e he'
  rcases goE_mem _ he' with he'|⟨c,hc,e1⟩
  ·exact hf.isafe e he'
  ·rw [e1]
   exact hf.ichg c (List.mem_of_mem_take hc)
 ·rintro e w' ⟨rfl,s',hg,h1,h2,h3⟩
  refine ⟨rfl,s',hg,?_⟩
  unfold PSt.ds crD
  rw [h1,h2,h3]
theorem dqCrash (h:DQ w d s A r n cu) (hn:n≤300000) (paths:Int) (kv:Value) (ks:List Int) (hk:KAt s.own w kv ks) :
  Calls Tryz.prog 16 #[.pointer (some ⟨d,0,none⟩),.int .i64 paths,kv] w fun e w'=>e = .returned (.int .i64 0)∧∃ s',PGo s s' w w'∧DQ w' d s' A r n cu∧s'.ds.R.left = -1:=by
 refine (bCrash_inv s d paths kv ks w h.dk hk h.fit (by omega) (by omega)).mono ?_
 rintro e w' ⟨rfl,s',hg,hd⟩
 rw [h.rq.crash] at hd
 refine ⟨rfl,s',hg,⟨h.dk.go hg,?_,?_,?_,h.len,h.good,h.use,h.r0,h.r1⟩,?_⟩
 ·rw [hd];exact h.rq.off
 ·rw [hd];exact h.c0
 ·rw [hd];exact h.c1
 ·rw [hd];rfl
theorem dqOpen (h:DQ w d s A r n cu) (hn:n≤300000) (hcu:cu≤90000000000) :
  Calls Tryz.prog 17 #[.pointer (some ⟨d,0,none⟩)] w fun e w'=>∃ s' xb sb cb tb cl,e = .returned (.tuple #[.pointer (some ⟨xb,0,none⟩),.int .i64 0])∧PGo s s' w w'∧DQ w' d s' A r n (cu+1)∧(s.ds.R.left = -1→SA w' d xb sb cb s' tb cl A r n (cu+1))∧(w.heap.size≤xb∧w.heap.size≤sb∧w.heap.size≤cb∧w.heap.size≤tb):=by
 have hnl:s.R.now.length≤n+3:=h.fit.nowLen
 refine (bOpen_rest s A.tg w d h.dk.inn h.dk.gl h.dk.low h.fit (show Bud _ _ _ from ⟨by omega,by omega,by omega⟩) (fun e he=>Nat.le_trans (h.small e he) (by decide)) (h.rq.qui h.good) h.dk.bd).mono ?_
 rintro e w' ⟨k,s',sv,rfl,hg,hr,hok, -⟩
 obtain ⟨rfl,hq,hl,h1,h2⟩:=h.rq.open hr
 obtain ⟨xb,sb,cb,tb,rfl,hbst,hlb,hlx,hst⟩:=hok rfl
 have hc0:=h.c0
 have hc1:=h.c1
 have hdq:DQ w' d s' A r n (cu+1):=⟨h.dk.go hg,hq,by omega,by omega,h.len,h.good,h.use,h.r0,h.r1⟩
 refine ⟨s',xb,sb,cb,tb,ctF s.R.now,rfl,hg,hdq,fun e=>?_,hlx,hlb.1,hlb.2.1,hlb.2.2⟩
 have hl':=hl e
 have hrst:Rst s'.ds (fA A) r 2000:=by
  have:=hq.rst
  rwa [offL_self hl'] at this
 exact ⟨hbst,fun e=>by have:=h.dk.gl.lt e;omega,hst,(h.dk.go hg).bd,ctF_ok,h.rq.cont,h.len,hrst,by omega,by omega,h.good,h.use,h.r0,h.r1⟩
end
def tC (t:TE):List Value:=[.string t.n,.string (dtx t.d),.int .i64 t.z]
def bC (b:ByteArray):List Value:=[.string (hxB b),.int .i64 (b.size:Int)]
theorem told_tg:∀ {l:List TE},(∀ t∈l,t.Ok)→((l.map TE.tg).map Tg.told).flatMap Tg.cells=l.flatMap tC
 | [],_=>rfl
 | t::l,h=>by
  have ih:=told_tg (l:=l) (fun x hx=>h x (by simp [hx]))
  have ht:=h t (by simp)
  have e:Tg.told t.tg=t.tg:=by
   unfold Tg.told TE.tg
   dsimp only
   rw [rd_dtx t.d ht.len ht.lt]
   rfl
  rw [List.map_cons,List.map_cons,List.flatMap_cons,List.flatMap_cons,ih,e]
  rfl
theorem flat_congr {α β γ:Type} (f:α→β) (g:β→List γ) (k:α→List γ):∀ l:List α,(∀ x∈l,g (f x)=k x)→(l.map f).flatMap g=l.flatMap k
 | [],_=>rfl
 | x::l,h=>by
  rw [List.map_cons,List.flatMap_cons,List.flatMap_cons,h x (by simp),flat_congr f g k l (fun y hy=>h y (by simp [hy]))]
section
variable {w:World} {db xb sb cb:Nat} {s:PSt} {tb:Nat} {cl:List (List Nat)} {A:Sto} {r:Int} {n cu:Nat}
theorem saGet (h:SA w db xb sb cb s tb cl A r n cu) {b c:ByteArray} (hc:conC A b=some c) :
  Calls Tryz.prog 34 #[.pointer (some ⟨xb,0,none⟩),.string (hxB b)] w fun e w'=>e = .returned (.tuple #[.string c,.int .i64 0])∧SGo (sS xb sb cb) s s w w'∧SA w' db xb sb cb s tb cl A r n cu:=by
 have hh:=h.has b
 rw [show findK kC (kC b) A.cs=some c from hc] at hh
 refine (bGet_any xb sb s cb tb cl.length (cD cl) A.tg (hxB b) w h.st h.hG h.sw (unitC_cD cl) (hx_dig b) (by rw [hx_rd];exact hh) (fun t ht=>by rw [hx_rd,h.rd b] at ht;have:=h.con300 ht;omega)).mono ?_
 rintro e w' ⟨rfl,hg,hx,hst⟩
 refine ⟨?_,hg,h.same hg hx hst⟩
 rw [hx_rd,h.con b,hc]
 rfl
theorem saTags (h:SA w db xb sb cb s tb cl A r n cu) :
  Calls Tryz.prog 42 #[.pointer (some ⟨xb,0,none⟩)] w fun e w'=>∃ v,e = .returned (.tuple #[v,.int .i64 0])∧w'.ownsRow w.heap.size 83 3 v A.tg.length (A.tg.flatMap tC)∧SGo (sS xb sb cb) s s w w'∧SA w' db xb sb cb s tb cl A r n cu:=by
 refine (bTags_many xb sb s cb tb cl.length (cD cl) A.tg w h.st h.hG h.sw h.good.tok h.good.t8).mono ?_
 rintro e w' ⟨v,rfl,hrow,hg,hx,hst⟩
 rw [told_tg h.good.tok] at hrow
 exact ⟨v,rfl,hrow,hg,h.same hg hx hst⟩
theorem blC_dv (h:SA w db xb sb cb s tb cl A r n cu) {b:ByteArray} (hb:b∈A.cs):blC s.ds (dvC b)=bC b:=by
 have hc:conC A b=some b:=findK_mem h.good.rise hb
 unfold blC bC
 rw [dvC_val,h.rd b,hc]
 rfl
theorem blC_bC (h:SA w db xb sb cb s tb cl A r n cu):(dlA A).flatMap (blC s.ds)=A.cs.flatMap bC:=flat_congr dvC (blC s.ds) bC A.cs (fun _ hb=>blC_dv h hb)
theorem saBlobs (h:SA w db xb sb cb s tb cl A r n cu) (hn:n≤300000) :
  Calls Tryz.prog 32 #[.pointer (some ⟨xb,0,none⟩)] w fun e w'=>∃ v,e = .returned (.tuple #[v,.int .i64 0])∧w'.ownsRow w.heap.size 73 2 v A.cs.length (A.cs.flatMap bC)∧SGo (sS xb sb cb) s s w w'∧SA w' db xb sb cb s tb cl A r n cu:=by
 have hdl:(dlA A).length=A.cs.length:=List.length_map _
 have hlen:=h.len
 refine (bBlobs_many xb sb s cb tb cl.length A.tg cl (dlA A) w h.st h.hG h.sw h.ok (dl_rise h.good.rise) (fun x=>by rw [dl_mem,h.mem]) (by have:=h.clen;omega) (by omega)).mono ?_
 rintro e w' ⟨v,rfl,hrow,hg,hx,hst⟩
 rw [blC_bC h,hdl] at hrow
 exact ⟨v,rfl,hrow,hg,h.same hg hx hst⟩
theorem SGo.lowN {w':World} {s':PSt} {N:Nat} (hg:SGo (sS xb sb cb) s s' w w') (hN:∀ k,s.own k∨sS xb sb cb k→N≤k) (hw:N≤w.heap.size):Below N w w' :=
 ⟨hg.gr.os,hg.gr.tape,hg.gr.output,hg.gr.size,fun k hk=>hg.gr.block k (by omega) (fun e=>by have:=hN k e;omega)⟩
theorem SA.lt (h:SA w db xb sb cb s tb cl A r n cu):∀ k,fpr s xb sb cb tb k→k<w.heap.size:=fun k hk=>by
 rcases hk with e|e|e
 ·exact h.sw.inn.lt e
 ·rcases e with e|e|e
  ·rw [e];exact lt_heap h.st
  ·rw [e];exact lt_heap h.sw.blk
  ·rw [e];exact h.sw.cm.lt
 ·rw [e];exact h.sw.tm.lt
end
end Go.Proofs.YtncigfibncmioaaGreatDoor
namespace Go.Proofs.YtncigfibncmioaaGreatDoor
set_option maxHeartbeats 4000000
set_option maxRecDepth 100000
open Go.RowKit
def shC (out b:ByteArray):ByteArray:=out++hxB b++⟨#[32]⟩++⟨(Lib.itoa (b.size:Int)).toArray⟩++⟨#[32]⟩++⟨(Lib.itoa ((0:Nat):Int)).toArray⟩++⟨#[32]⟩++b++⟨#[59]⟩
def shT (out:ByteArray) (t:TE):ByteArray:=out++t.n++⟨#[32]⟩++dtx t.d++⟨#[32]⟩++⟨(Lib.itoa (t.z.toNat:Int)).toArray⟩++⟨#[59]⟩
def shA (A:Sto):ByteArray:=A.tg.foldl shT (A.cs.foldl shC ⟨#[]⟩)
theorem shC_size (out b:ByteArray) (hb:b.size≤300):(shC out b).size≤out.size+500:=by
 unfold shC
 simp only [ba_size]
 have h1:=itoa_lenB b.size (by omega)
 have h0:=itoa_lenB 0 (by omega)
 have h2:(⟨(Lib.itoa (b.size:Int)).toArray⟩ : ByteArray).size=(Lib.itoa (b.size:Int)).length:=bytes_size _
 have h5:(⟨(Lib.itoa ((0:Nat):Int)).toArray⟩ : ByteArray).size=(Lib.itoa ((0:Nat):Int)).length:=bytes_size _
 have h3:(⟨#[32]⟩ : ByteArray).size=1:=rfl
 have h4:(⟨#[59]⟩ : ByteArray).size=1:=rfl
 have h6:(hxB b).size=64:=dtx_size _
 omega
theorem shT_size (out:ByteArray) (t:TE) (ht:t.Ok):(shT out t).size≤out.size+500:=by
 unfold shT
 simp only [ba_size]
 have hz:t.z.toNat≤1000000:=by have:=ht.z1;omega
 have h1:=itoa_lenB t.z.toNat hz
 have h2:(⟨(Lib.itoa (t.z.toNat:Int)).toArray⟩ : ByteArray).size=(Lib.itoa (t.z.toNat:Int)).length:=bytes_size _
 have h3:(⟨#[32]⟩ : ByteArray).size=1:=rfl
 have h4:(⟨#[59]⟩ : ByteArray).size=1:=rfl
 have h6:(dtx t.d).size=64:=dtx_size _
 have:=ht.n
 omega
theorem fold_take {α β:Type} (f:β→α→β) (b:β) (l:List α) {i:Nat} (hi:i<l.length):(l.take (i+1)).foldl f b=f ((l.take i).foldl f b) (l[i]'hi):=by
 rw [List.take_add_one,List.getElem?_eq_getElem hi,List.foldl_append]
 rfl
section
variable {w:World} {db xb sb cb:Nat} {s:PSt} {tb:Nat} {cl:List (List Nat)} {A:Sto} {r:Int} {n cu:Nat}
theorem saShown (h:SA w db xb sb cb s tb cl A r n cu) (hn:n≤300000) :
  Calls Tryz.prog 13 #[.pointer (some ⟨xb,0,none⟩)] w fun e w'=>e = .returned (.tuple #[.string (shA A),.bool true])∧SGo (sS xb sb cb) s s w w'∧SA w' db xb sb cb s tb cl A r n cu:=by
 have HBL:=hide (saBlobs h hn)
 have HTG:=hide (fun (W:World) (hW:SA W db xb sb cb s tb cl A r n cu)=>saTags hW)
 have HKEEP:=hide (show ∀ (wa wb:World),SGo (sS xb sb cb) s s wa wb→∀ (B:Nat) (e:TypeId) (k:Nat) (v:Value) (m:Nat) (xs:List Value),w.heap.size≤B→wa.ownsRow B e k v m xs→wb.ownsRow B e k v m xs from fun wa wb hg B e k v m xs hB ho=>own_same ho (fun x hx hlt=>hg.gr.block x hlt (fun e2=>by
  have h1:=own_ge ho x hx
  have h2:=h.lt x (e2.elim .inl (fun e2=>.inr (.inl e2)))
  omega)))
 have HGD:=hide h.good
 have hlen:A.cs.length≤300000:=Nat.le_trans h.len hn
 have ht8:=h.good.t8
 have HGET:=hide (show ∀ (W:World) (i:Nat) (hi:i<A.cs.length),SA W db xb sb cb s tb cl A r n cu→Calls Tryz.prog 34 #[.pointer (some ⟨xb,0,none⟩),.string (hxB (A.cs[i]'hi))] W fun e w'=>e = .returned (.tuple #[.string (A.cs[i]'hi),.int .i64 0])∧SGo (sS xb sb cb) s s W w'∧SA w' db xb sb cb s tb cl A r n cu from fun W i hi hW=>saGet hW (findK_mem hW.good.rise (List.getElem_mem hi)))
 obtain ⟨R,hR⟩ : ∃ R,R=shA A:=⟨_,rfl⟩
 rw [← hR]
 have HR:=hide hR
 obtain ⟨m,hm⟩ : ∃ m,m=A.cs.length:=⟨_,rfl⟩
 obtain ⟨q,hq⟩ : ∃ q,q=A.tg.length:=⟨_,rfl⟩
 rw [← hm] at hlen
 rw [← hq] at ht8
 have HM:=hide hm
 have HQ:=hide hq
 clear h hR hm hq
 go_enter Tryz.func13,Tryz.ntmps13
 go_wp2_with fail
 refine (HBL.out).mono ?_
 rintro _ w1 ⟨v1,rfl,hrow1,hg1,hs1⟩
 dsimp only
 have HT1:=hide (HTG.out w1 hs1)
 have HG1:=hide hg1
 have HROW1:=hide hrow1
 clear hrow1 hg1 hs1 HBL HTG
 go_wp2_with fail
 refine (HT1.out).mono ?_
 rintro _ w2 ⟨v2,rfl,hrow2,hg2,hs2⟩
 dsimp only
 have hrow1:=HKEEP.out w1 w2 hg2 _ _ _ _ _ _ (Nat.le_refl _) HROW1.out
 rw [← HM.out] at hrow1
 rw [← HQ.out] at hrow2
 obtain ⟨o1,k1,rfl⟩:=own_sl hrow1
 obtain ⟨o2,k2,rfl⟩:=own_sl hrow2
 have hrow2:=hrow2.mono_base (HG1.out.gr.size:w.heap.size≤w1.heap.size)
 have HR1:=hide hrow1
 have HR2:=hide hrow2
 have HG2:=hide (HG1.out.trans hg2)
 have HS2:=hide hs2
 clear hrow1 hrow2 hg2 hs2 HT1 HROW1 HG1
 go_wp2_with fail
 go_loopw [8,9] (fun ov iv wr=>∃ (j:Nat),j≤m∧iv = .int .i64 ((j:Nat):Int)∧ov = .string ((A.cs.take j).foldl shC ⟨#[]⟩)∧((A.cs.take j).foldl shC ⟨#[]⟩).size≤j * 500∧SGo (sS xb sb cb) s s w wr∧SA wr db xb sb cb s tb cl A r n cu∧wr.ownsRow w.heap.size 73 2 (.slice o1 m k1) m (A.cs.flatMap bC)∧wr.ownsRow w.heap.size 83 3 (.slice o2 q k2) q (A.tg.flatMap tC)) (fun _ iv _=>m - (intOf iv).toNat)
 case atStart=>exact ⟨0,Nat.zero_le _,rfl,rfl,Nat.le_refl _,HG2.out,HS2.out,HR1.out,HR2.out⟩
 case round =>
  obtain ⟨j,hj,rfl,rfl,hsz,hgo,hsa,hrw1,hrw2⟩:=hrel
  have HGO:=hide hgo
  have HSA:=hide hsa
  have HW1:=hide hrw1
  have HW2:=hide hrw2
  clear hgo hsa
  by_cases hlt:j<m
  ·have hjl:j<A.cs.length:=by rw [← HM.out];exact hlt
   obtain ⟨g1,c1,e1,hc⟩:=row_flat (enc:=bC) (k:=2) (fun x=>rfl) hrw1 HM.out hjl
   injection e1 with e1 _ ec
   subst e1
   subst ec
   have r0:=hc 0 _ rfl
   have r1:=hc 1 _ rfl
   rw [Nat.add_zero] at r0
   have HRF:=hide (show ∀ W:World,W.ownsRow w.heap.size 73 2 (.slice (some ⟨g1,0,none⟩) m k1) m (A.cs.flatMap bC)→W.cell? ⟨g1,j * 2,none⟩=some (.string (hxB (A.cs[j]'hjl)))∧W.cell? ⟨g1,j * 2+1,none⟩=some (.int .i64 ((A.cs[j]'hjl).size:Int)) from fun W hW=>by
    obtain ⟨g3,c3,e3,hc3⟩:=row_flat (enc:=bC) (k:=2) (fun x=>rfl) hW HM.out hjl
    injection e3 with e3 _ _
    injection e3 with e3
    injection e3 with e3
    subst e3
    exact ⟨hc3 0 _ rfl,hc3 1 _ rfl⟩)
   have HGT:=hide (HGET.out wr j hjl HSA.out)
   have hnx:=fold_take shC ⟨#[]⟩ A.cs hjl
   have hb3:=HGD.out.sz _ (List.getElem_mem hjl)
   have hone:=shC_size ((A.cs.take j).foldl shC ⟨#[]⟩) (A.cs[j]'hjl) hb3
   have hsx:(hxB (A.cs[j]'hjl)).size≤64:=Nat.le_of_eq (dtx_size _)
   generalize (A.cs.take j).foldl shC ⟨#[]⟩=O at *
   generalize A.cs[j]'hjl=b at *
   have hnx2:(A.cs.take (j+1)).foldl shC ⟨#[]⟩=O++hxB b++⟨#[32]⟩++⟨(Lib.itoa (b.size:Int)).toArray⟩++⟨#[32]⟩++⟨(Lib.itoa ((0:Nat):Int)).toArray⟩++⟨#[32]⟩++b++⟨#[59]⟩:=hnx
   have HNX:=hide hnx2
   clear hnx hnx2
   generalize hxB b=H at *
   have d1:decide (((j:Nat):Int)<((m:Nat):Int))=true:=decide_eq_true (by omega)
   clear hrw1 hrw2 hc hjl hone
   go_wp2_with fail
   refine (HGT.out).mono ?_
   rintro _ w3 ⟨rfl,hg3,hs3⟩
   dsimp only
   have hrw3:=HKEEP.out wr w3 hg3 _ _ _ _ _ _ (Nat.le_refl _) HW1.out
   have hrw4:=HKEEP.out wr w3 hg3 _ _ _ _ _ _ (Nat.le_refl _) HW2.out
   obtain ⟨r30,r31⟩:=HRF.out _ hrw3
   obtain ⟨z,hz⟩ : ∃ z,z=b.size:=⟨_,rfl⟩
   have HDC:Hid (∀ W,Calls Tryz.prog 41 #[.int .i64 ((z:Nat):Int)] W fun e w'=>e = .returned (.string ⟨(Lib.itoa (b.size:Int)).toArray⟩)∧Below W.heap.size W w'):=hide (fun W=>by rw [hz];exact decimalB_any b.size (by omega) W)
   have HDZ:Hid (∀ W,Calls Tryz.prog 41 #[.int .i64 0] W fun e w'=>e = .returned (.string ⟨(Lib.itoa ((0:Nat):Int)).toArray⟩)∧Below W.heap.size W w'):=hide (fun W=>decimalB_any 0 (by omega) W)
   rw [← hz] at r31
   clear hz
   have t1:(⟨(Lib.itoa (b.size:Int)).toArray⟩ : ByteArray).size≤21:=by rw [bytes_size];exact itoa_lenB _ (by omega)
   have t0:(⟨(Lib.itoa ((0:Nat):Int)).toArray⟩ : ByteArray).size≤21:=by rw [bytes_size];exact itoa_lenB _ (by omega)
   generalize (⟨(Lib.itoa (b.size:Int)).toArray⟩ : ByteArray)=Tx at *
   generalize (⟨(Lib.itoa ((0:Nat):Int)).toArray⟩ : ByteArray)=Tz at *
   have q1:¬ 9223372036854775807<O.size+H.size:=by omega
   have q2:¬ 9223372036854775807<O.size+H.size+1:=by omega
   have q3:¬ 9223372036854775807<O.size+H.size+1+Tx.size:=by omega
   have q4:¬ 9223372036854775807<O.size+H.size+1+Tx.size+1:=by omega
   have q5:¬ 9223372036854775807<O.size+H.size+1+Tx.size+1+Tz.size:=by omega
   have q6:¬ 9223372036854775807<O.size+H.size+1+Tx.size+1+Tz.size+1:=by omega
   have q7:¬ 9223372036854775807<O.size+H.size+1+Tx.size+1+Tz.size+1+b.size:=by omega
   have q8:¬ 9223372036854775807<O.size+H.size+1+Tx.size+1+Tz.size+1+b.size+1:=by omega
   have HGO3:=hide (HGO.out.trans hg3)
   have HSA3:=hide hs3
   have HW3:=hide hrw3
   have HW4:=hide hrw4
   have hdr:Below w3.heap.size w3 w3.drew:=(Below.refl _ _).drew
   have hS0:w3.drew.cell? ⟨g1,j * 2,none⟩=some (.string H)∧w3.drew.cell? ⟨g1,j * 2+1,none⟩=some (.int .i64 ((z:Nat):Int)):=⟨cell_later hdr r30,cell_later hdr r31⟩
   have HC0:=hide r30
   have HC1:=hide r31
   clear hg3 hs3 hrw3 hrw4 r30 r31 r0 r1 HRF HGT
   go_wp2_with fail
   go_region_held3 (fun w'=>w'.cell? ⟨g1,j * 2,none⟩=some (.string H)∧w'.cell? ⟨g1,j * 2+1,none⟩=some (.int .i64 ((z:Nat):Int))) (first|exact hS0|exact hS4|exact hS5|go_keep) ((first
    | (go_at_call 41;(with_reducible refine (HDZ.out _).mono ?_);rintro _ w5 ⟨rfl,hb6⟩;have hb7:Below w3.heap.size w3 w5:=hb5.trans (hb6.mono hb5.size);have hS5:w5.cell? ⟨g1,j * 2,none⟩=some (.string H)∧w5.cell? ⟨g1,j * 2+1,none⟩=some (.int .i64 ((z:Nat):Int)):=⟨cell_later hb7 HC0.out,cell_later hb7 HC1.out⟩)
    | (go_at_call 41;(with_reducible refine (HDC.out _).mono ?_);rintro _ w4 ⟨rfl,hb4⟩;have hb5:Below w3.heap.size w3 w4:=hdr.trans hb4;have hS4:w4.cell? ⟨g1,j * 2,none⟩=some (.string H)∧w4.cell? ⟨g1,j * 2+1,none⟩=some (.int .i64 ((z:Nat):Int)):=⟨cell_later hb5 HC0.out,cell_later hb5 HC1.out⟩)))
   have HB7:=hide hb7
   clear hb4 hb5 hb6 hb7 hS0 hS4 hS5 hdr HDC HDZ HC0 HC1
   go_wp2_with fail
   refine ⟨⟨j+1,by omega,by simp,by rw [HNX.out],?_,HGO3.out.trans (SGo.of_below HB7.out),HSA3.out.later HB7.out,ownsRow_later HW3.out HB7.out,ownsRow_later HW4.out HB7.out⟩,by simp only [intOf];omega⟩
   rw [HNX.out]
   simp only [ba_size]
   have h3:(⟨#[32]⟩ : ByteArray).size=1:=rfl
   have h4:(⟨#[59]⟩ : ByteArray).size=1:=rfl
   omega
  ·have d1:decide (((j:Nat):Int)<((m:Nat):Int))=false:=decide_eq_false (by omega)
   have hjn:j=m:=by omega
   subst hjn
   have ht:A.cs.take j=A.cs:=List.take_of_length_le (by rw [← HM.out];exact Nat.le_refl _)
   rw [ht] at hsz ⊢
   clear hrw1 hrw2 ht
   have HB0:=hide (show R=A.tg.foldl shT (A.cs.foldl shC ⟨#[]⟩) from HR.out)
   generalize A.cs.foldl shC ⟨#[]⟩=O at hsz HB0 ⊢
   go_wp2_with fail
   go_loopw [8,12] (fun ov iv wr=>∃ (i:Nat),i≤q∧iv = .int .i64 ((i:Nat):Int)∧ov = .string ((A.tg.take i).foldl shT O)∧((A.tg.take i).foldl shT O).size≤j * 500+i * 500∧SGo (sS xb sb cb) s s w wr∧SA wr db xb sb cb s tb cl A r n cu∧wr.ownsRow w.heap.size 83 3 (.slice o2 q k2) q (A.tg.flatMap tC)) (fun _ iv _=>q - (intOf iv).toNat)
   case atStart=>exact ⟨0,Nat.zero_le _,rfl,rfl,by simpa using hsz,HGO.out,HSA.out,HW2.out⟩
   case round =>
    obtain ⟨i,hi,rfl,rfl,hsz2,hgo,hsa,hrw2⟩:=hrel
    have HGO2:=hide hgo
    have HSA2:=hide hsa
    have HW5:=hide hrw2
    clear hgo hsa
    by_cases hli:i<q
    ·have hil:i<A.tg.length:=by rw [← HQ.out];exact hli
     obtain ⟨g2,c2,e2,hc⟩:=row_flat (enc:=tC) (k:=3) (fun x=>rfl) hrw2 HQ.out hil
     injection e2 with e2 _ ec
     subst e2
     subst ec
     have r0:=hc 0 _ rfl
     have r1:=hc 1 _ rfl
     have r2:=hc 2 _ rfl
     rw [Nat.add_zero] at r0
     have hnx:=fold_take shT O A.tg hil
     have htk:=HGD.out.tok _ (List.getElem_mem hil)
     have hone:=shT_size ((A.tg.take i).foldl shT O) (A.tg[i]'hil) htk
     generalize A.tg[i]'hil=t at *
     generalize (A.tg.take i).foldl shT O=P at *
     have hnx2:(A.tg.take (i+1)).foldl shT O=P++t.n++⟨#[32]⟩++dtx t.d++⟨#[32]⟩++⟨(Lib.itoa (t.z.toNat:Int)).toArray⟩++⟨#[59]⟩:=hnx
     have HNX:=hide hnx2
     clear hnx hnx2
     obtain ⟨z,hz⟩ : ∃ z:Nat,t.z=(z:Int):=⟨t.z.toNat,by have:=htk.z0;omega⟩
     have hz3:z≤1000000:=by have:=htk.z1;omega
     rw [hz] at r2
     have hzn:t.z.toNat=z:=by omega
     rw [hzn] at HNX
     have HDC:=hide (fun W=>decimalB_any z hz3 W)
     have t1:(⟨(Lib.itoa (z:Int)).toArray⟩ : ByteArray).size≤21:=by rw [bytes_size];exact itoa_lenB _ hz3
     generalize (⟨(Lib.itoa (z:Int)).toArray⟩ : ByteArray)=Tx at *
     have hn1:=htk.n
     have hd1:(dtx t.d).size≤64:=Nat.le_of_eq (dtx_size _)
     generalize dtx t.d=D at *
     generalize t.n=M at *
     have q1:¬ 9223372036854775807<P.size+M.size:=by omega
     have q2:¬ 9223372036854775807<P.size+M.size+1:=by omega
     have q3:¬ 9223372036854775807<P.size+M.size+1+D.size:=by omega
     have q4:¬ 9223372036854775807<P.size+M.size+1+D.size+1:=by omega
     have q5:¬ 9223372036854775807<P.size+M.size+1+D.size+1+Tx.size:=by omega
     have q6:¬ 9223372036854775807<P.size+M.size+1+D.size+1+Tx.size+1:=by omega
     have d2:decide (((i:Nat):Int)<((q:Nat):Int))=true:=decide_eq_true (by omega)
     have hdr:Below wr.heap.size wr wr.drew:=(Below.refl _ _).drew
     have hS0:wr.drew.cell? ⟨g2,i * 3,none⟩=some (.string M)∧wr.drew.cell? ⟨g2,i * 3+1,none⟩=some (.string D)∧wr.drew.cell? ⟨g2,i * 3+2,none⟩=some (.int .i64 ((z:Nat):Int)):=⟨cell_later hdr r0,cell_later hdr r1,cell_later hdr r2⟩
     have HC:=hide (And.intro r0 (And.intro r1 r2))
     clear hrw2 hc hil hone htk hz hzn r0 r1 r2
     go_wp2_with fail
     go_region_held3 (fun w'=>w'.cell? ⟨g2,i * 3,none⟩=some (.string M)∧w'.cell? ⟨g2,i * 3+1,none⟩=some (.string D)∧w'.cell? ⟨g2,i * 3+2,none⟩=some (.int .i64 ((z:Nat):Int))) (first|exact hS0|exact hS4|go_keep) ((go_at_call 41;refine (HDC.out _).mono ?_;rintro _ w4 ⟨rfl,hb4⟩;have hb5:Below wr.heap.size wr w4:=hdr.trans hb4;have hS4:w4.cell? ⟨g2,i * 3,none⟩=some (.string M)∧w4.cell? ⟨g2,i * 3+1,none⟩=some (.string D)∧w4.cell? ⟨g2,i * 3+2,none⟩=some (.int .i64 ((z:Nat):Int)):=⟨cell_later hb5 HC.out.1,cell_later hb5 HC.out.2.1,cell_later hb5 HC.out.2.2⟩))
     have HB5:=hide hb5
     clear hb4 hb5 hS0 hS4 hdr HDC HC
     go_wp2_with fail
     refine ⟨⟨i+1,by omega,by simp,by rw [HNX.out],?_,HGO2.out.trans (SGo.of_below HB5.out),HSA2.out.later HB5.out,ownsRow_later HW5.out HB5.out⟩,by simp only [intOf];omega⟩
     rw [HNX.out]
     simp only [ba_size]
     have h3:(⟨#[32]⟩ : ByteArray).size=1:=rfl
     have h4:(⟨#[59]⟩ : ByteArray).size=1:=rfl
     omega
    ·have d2:decide (((i:Nat):Int)<((q:Nat):Int))=false:=decide_eq_false (by omega)
     have hiq:i=q:=by omega
     subst hiq
     have ht2:A.tg.take i=A.tg:=List.take_of_length_le (by rw [← HQ.out];exact Nat.le_refl _)
     rw [ht2,← HB0.out] at hsz2 ⊢
     clear hrw2 ht2
     go_wp2_with fail
     refine bodyPost_ret (results_tmp2 rfl _ _ _) rfl ?_
     exact ⟨rfl,HGO2.out,HSA2.out⟩
end
end Go.Proofs.YtncigfibncmioaaGreatDoor
