/-
  PROVED HERE: what does of the statements answers, of a store at rest; written by tools/gendoes.py.
-/
import Derived.Test.YtncigfibncmioaaGreatDoorSaCalls
import Derived.Test.YtncigfibncmioaaGreatDoorKCont
import Derived.Test.YtncigfibncmioaaGreatDoorKDecB
import Derived.Test.YtncigfibncmioaaGreatDoorBmTags
import Derived.Test.YtncigfibncmioaaGreatDoorSoLoad
namespace Go.Proofs.YtncigfibncmioaaGreatDoor
set_option maxHeartbeats 4000000
set_option maxRecDepth 100000
open Go.RowKit
section
variable {w:World} {db xb sb cb:Nat} {s:PSt} {tb:Nat} {cl:List (List Nat)} {A:Sto} {r:Int} {n cu:Nat}
theorem SA.later {w':World} (h:SA w db xb sb cb s tb cl A r n cu) (hb:Below w.heap.size w w'):SA w' db xb sb cb s tb cl A r n cu:=h.same (SGo.of_below hb) ((hb.block _ (lt_heap h.st)).trans h.st) (h.sw.later hb)
theorem SaN.pre {w1 w':World} {A':Sto} {m cv:Nat} (h:SaN w1 w' db xb sb cb s tb A' r m cv) (hb:Below w.heap.size w w1):SaN w w' db xb sb cb s tb A' r m cv:=by
 obtain ⟨s',tb',cl',h1,h2,h3⟩:=h
 exact ⟨s',tb',cl',(SGo.of_below hb).trans h1,h2.imp id (fun h=>Nat.le_trans hb.size h),h3⟩
theorem SaN.post {w1 w':World} {A':Sto} {m cv:Nat} (h:SaN w w1 db xb sb cb s tb A' r m cv) (hb:Below w1.heap.size w1 w'):SaN w w' db xb sb cb s tb A' r m cv:=by
 obtain ⟨s',tb',cl',h1,h2,h3⟩:=h
 exact ⟨s',tb',cl',h1.trans (SGo.of_below hb),h2,h3.later hb⟩
theorem hashK (b:ByteArray) (w:World) (hb:b.size≤300) (hg:Gl w):Calls Tryz.prog 35 #[.string b] w fun e w'=>e = .returned (.string (hxB b))∧Below w.heap.size w w':=hash_any b w (by omega) hg.hk
def dsPl (A:Sto) (K N B:Int):Pl:=match pickN K 8 with
 | 0=>putPl A (conT B)
 | 1=>putPl A (conT B)
 | 2=>tagPl A (nmT N) (conT B)
 | 3=>untPl A (nmT N)
 | 4=>pubPl A (nmT N) (conT B)
 | 5=>pubPl A (nmT N) (conT B)
 | 6=>delPl A (conT B)
 | _=>pruPl A
def i64r (x:Int):Prop := -9223372036854775808≤x∧x≤9223372036854775807
theorem does_0 (h:SA w db xb sb cb s tb cl A r n cu) (hn:n≤300000) (hcu:cu≤90000000000) (K N B:Int) (hK:i64r K) (hN:i64r N) (hB:i64r B) (hk:pickN K 8=0) :
  Calls Tryz.prog 11 #[.pointer (some ⟨xb,0,none⟩),.agg #[.int .i64 K,.int .i64 N,.int .i64 B]] w fun e w'=>e = .returned (.tuple #[.string ((putPl A (conT B)).run r A).1,.int .i64 ((putPl A (conT B)).run r A).2.1])∧SaN w w' db xb sb cb s tb ((putPl A (conT B)).run r A).2.2 r (n+1) (cu+n+20):=by
 have hpk:∀ w,Calls Tryz.prog 21 #[.int .i64 K,.int .i64 8] w fun e w'=>e = .returned (.int .i64 0)∧w'=w:=fun w=>by
  have:=pick_any K 8 (by decide) (by decide) hK.1 hK.2 w
  rw [hk] at this
  exact this
 have HP:=hide hpk
 have HCT:=hide (fun w=>content_of B hB.1 hB.2 w)
 have HNM:Hid (∀ w,Calls Tryz.prog 37 #[.int .i64 N] w fun e w'=>e = .returned (.string (nmT N))∧Below w.heap.size w w'):=hide (fun w=>name_any N hN.1 hN.2 w)
 have hbs:=conT_size B
 have hns:=nmT_size N
 have hnt:=nmT_tag N
 generalize conT B=bb at HCT hbs ⊢
 generalize nmT N=nn at HNM hns hnt ⊢
 have HC:=hide (fun (W:World) (hW:SA W db xb sb cb s tb cl A r n cu)=>saPut hW hn hcu bb (by omega))
 generalize (putPl A bb).run r A=X at HC ⊢
 have hbo:Below w.heap.size w (w.alloc (.cells #[.int .i64 K,.int .i64 N,.int .i64 B] 31)):=(Below.refl _ _).alloc (Nat.le_refl _) _
 have hrow:(w.alloc (.cells #[.int .i64 K,.int .i64 N,.int .i64 B] 31)).heap[w.heap.size]? = some (.cells #[.int .i64 K,.int .i64 N,.int .i64 B] 31 (0,0)):=heap_alloc_new _ _
 obtain ⟨W,hW⟩ : ∃ W,W=w.alloc (.cells #[.int .i64 K,.int .i64 N,.int .i64 B] 31):=⟨_,rfl⟩
 rw [← hW] at hbo hrow
 have hs:=h.later hbo
 have c0:W.cell? ⟨w.heap.size,0,none⟩=some (.int .i64 K):=cell_of_row _ _ 0 _ _ _ hrow
 have c1:W.cell? ⟨w.heap.size,1,none⟩=some (.int .i64 N):=cell_of_row _ _ 1 _ _ _ hrow
 have c2:W.cell? ⟨w.heap.size,2,none⟩=some (.int .i64 B):=cell_of_row _ _ 2 _ _ _ hrow
 have HW:=hide hW
 have HBO:=hide hbo
 have HRW:=hide hrow
 have HS:=hide hs
 have HSZ:=hide (show ∀ k,s.own k∨sS xb sb cb k→k<w.heap.size from fun k hk=>by
  rcases hk with e | e | e | e
  ·exact h.sw.inn.lt e
  ·rw [e];exact lt_heap h.st
  ·rw [e];exact lt_heap h.sw.blk
  ·rw [e];exact h.sw.cm.lt)
 clear h hW hbo hrow hs hpk hK hN hB hk
 go_enter Tryz.func11,Tryz.ntmps11
 go_upto_region 1 with fail
 rw [← HW.out]
 go_wp2_with fail
 refine (HP.out _).mono ?_
 rintro _ w1 ⟨rfl,hw1⟩
 rw [hw1]
 dsimp only
 clear hw1
 go_wp2_with fail
 refine (HCT.out _).mono ?_
 rintro _ w2 ⟨rfl,hb2⟩
 dsimp only
 have HB2:=hide (HBO.out.trans (hb2.mono HBO.out.size))
 have HC2:=hide (HC.out w2 (HS.out.later hb2))
 clear hb2 c0 c1 c2 HC
 go_wp2_with fail
 refine (HC2.out).mono ?_
 rintro _ w3 ⟨rfl,hsn⟩
 dsimp only
 have HN:=hide (hsn.pre HB2.out)
 clear hsn HC2
 go_wp2_with fail
 refine bodyPost_ret (results_tmp2 rfl _ _ _) rfl ?_
 exact ⟨rfl,HN.out⟩
theorem does_1 (h:SA w db xb sb cb s tb cl A r n cu) (hn:n≤300000) (hcu:cu≤90000000000) (K N B:Int) (hK:i64r K) (hN:i64r N) (hB:i64r B) (hk:pickN K 8=1) :
  Calls Tryz.prog 11 #[.pointer (some ⟨xb,0,none⟩),.agg #[.int .i64 K,.int .i64 N,.int .i64 B]] w fun e w'=>e = .returned (.tuple #[.string ((putPl A (conT B)).run r A).1,.int .i64 ((putPl A (conT B)).run r A).2.1])∧SaN w w' db xb sb cb s tb ((putPl A (conT B)).run r A).2.2 r (n+1) (cu+n+20):=by
 have hpk:∀ w,Calls Tryz.prog 21 #[.int .i64 K,.int .i64 8] w fun e w'=>e = .returned (.int .i64 1)∧w'=w:=fun w=>by
  have:=pick_any K 8 (by decide) (by decide) hK.1 hK.2 w
  rw [hk] at this
  exact this
 have HP:=hide hpk
 have HCT:=hide (fun w=>content_of B hB.1 hB.2 w)
 have HNM:Hid (∀ w,Calls Tryz.prog 37 #[.int .i64 N] w fun e w'=>e = .returned (.string (nmT N))∧Below w.heap.size w w'):=hide (fun w=>name_any N hN.1 hN.2 w)
 have hbs:=conT_size B
 have hns:=nmT_size N
 have hnt:=nmT_tag N
 generalize conT B=bb at HCT hbs ⊢
 generalize nmT N=nn at HNM hns hnt ⊢
 have HC:=hide (fun (W:World) (hW:SA W db xb sb cb s tb cl A r n cu)=>saPut hW hn hcu bb (by omega))
 generalize (putPl A bb).run r A=X at HC ⊢
 have hbo:Below w.heap.size w (w.alloc (.cells #[.int .i64 K,.int .i64 N,.int .i64 B] 31)):=(Below.refl _ _).alloc (Nat.le_refl _) _
 have hrow:(w.alloc (.cells #[.int .i64 K,.int .i64 N,.int .i64 B] 31)).heap[w.heap.size]? = some (.cells #[.int .i64 K,.int .i64 N,.int .i64 B] 31 (0,0)):=heap_alloc_new _ _
 obtain ⟨W,hW⟩ : ∃ W,W=w.alloc (.cells #[.int .i64 K,.int .i64 N,.int .i64 B] 31):=⟨_,rfl⟩
 rw [← hW] at hbo hrow
 have hs:=h.later hbo
 have c0:W.cell? ⟨w.heap.size,0,none⟩=some (.int .i64 K):=cell_of_row _ _ 0 _ _ _ hrow
 have c1:W.cell? ⟨w.heap.size,1,none⟩=some (.int .i64 N):=cell_of_row _ _ 1 _ _ _ hrow
 have c2:W.cell? ⟨w.heap.size,2,none⟩=some (.int .i64 B):=cell_of_row _ _ 2 _ _ _ hrow
 have HW:=hide hW
 have HBO:=hide hbo
 have HRW:=hide hrow
 have HS:=hide hs
 have HSZ:=hide (show ∀ k,s.own k∨sS xb sb cb k→k<w.heap.size from fun k hk=>by
  rcases hk with e | e | e | e
  ·exact h.sw.inn.lt e
  ·rw [e];exact lt_heap h.st
  ·rw [e];exact lt_heap h.sw.blk
  ·rw [e];exact h.sw.cm.lt)
 clear h hW hbo hrow hs hpk hK hN hB hk
 go_enter Tryz.func11,Tryz.ntmps11
 go_upto_region 1 with fail
 rw [← HW.out]
 go_wp2_with fail
 refine (HP.out _).mono ?_
 rintro _ w1 ⟨rfl,hw1⟩
 rw [hw1]
 dsimp only
 clear hw1
 go_wp2_with fail
 refine (HCT.out _).mono ?_
 rintro _ w2 ⟨rfl,hb2⟩
 dsimp only
 have HB2:=hide (HBO.out.trans (hb2.mono HBO.out.size))
 have HC2:=hide (HC.out w2 (HS.out.later hb2))
 clear hb2 c0 c1 c2 HC
 go_wp2_with fail
 refine (HC2.out).mono ?_
 rintro _ w3 ⟨rfl,hsn⟩
 dsimp only
 have HN:=hide (hsn.pre HB2.out)
 clear hsn HC2
 go_wp2_with fail
 refine bodyPost_ret (results_tmp2 rfl _ _ _) rfl ?_
 exact ⟨rfl,HN.out⟩
theorem does_2 (h:SA w db xb sb cb s tb cl A r n cu) (hn:n≤300000) (hcu:cu≤90000000000) (K N B:Int) (hK:i64r K) (hN:i64r N) (hB:i64r B) (hk:pickN K 8=2) :
  Calls Tryz.prog 11 #[.pointer (some ⟨xb,0,none⟩),.agg #[.int .i64 K,.int .i64 N,.int .i64 B]] w fun e w'=>e = .returned (.tuple #[.string ((tagPl A (nmT N) (conT B)).run r A).1,.int .i64 ((tagPl A (nmT N) (conT B)).run r A).2.1])∧SaN w w' db xb sb cb s tb ((tagPl A (nmT N) (conT B)).run r A).2.2 r (n+1) (cu+n+20):=by
 have hpk:∀ w,Calls Tryz.prog 21 #[.int .i64 K,.int .i64 8] w fun e w'=>e = .returned (.int .i64 2)∧w'=w:=fun w=>by
  have:=pick_any K 8 (by decide) (by decide) hK.1 hK.2 w
  rw [hk] at this
  exact this
 have HP:=hide hpk
 have HCT:=hide (fun w=>content_of B hB.1 hB.2 w)
 have HNM:Hid (∀ w,Calls Tryz.prog 37 #[.int .i64 N] w fun e w'=>e = .returned (.string (nmT N))∧Below w.heap.size w w'):=hide (fun w=>name_any N hN.1 hN.2 w)
 have hbs:=conT_size B
 have hns:=nmT_size N
 have hnt:=nmT_tag N
 generalize conT B=bb at HCT hbs ⊢
 generalize nmT N=nn at HNM hns hnt ⊢
 have HC:=hide (fun (W:World) (hW:SA W db xb sb cb s tb cl A r n cu)=>saTag hW hn hcu nn bb (by omega) hnt (by omega))
 have HHS:=hide (fun (W:World) (hg:Gl W)=>hashK bb W (by omega) hg)
 generalize (tagPl A nn bb).run r A=X at HC ⊢
 generalize hxB bb=hh at HC HHS
 have hbo:Below w.heap.size w (w.alloc (.cells #[.int .i64 K,.int .i64 N,.int .i64 B] 31)):=(Below.refl _ _).alloc (Nat.le_refl _) _
 have hrow:(w.alloc (.cells #[.int .i64 K,.int .i64 N,.int .i64 B] 31)).heap[w.heap.size]? = some (.cells #[.int .i64 K,.int .i64 N,.int .i64 B] 31 (0,0)):=heap_alloc_new _ _
 obtain ⟨W,hW⟩ : ∃ W,W=w.alloc (.cells #[.int .i64 K,.int .i64 N,.int .i64 B] 31):=⟨_,rfl⟩
 rw [← hW] at hbo hrow
 have hs:=h.later hbo
 have c0:W.cell? ⟨w.heap.size,0,none⟩=some (.int .i64 K):=cell_of_row _ _ 0 _ _ _ hrow
 have c1:W.cell? ⟨w.heap.size,1,none⟩=some (.int .i64 N):=cell_of_row _ _ 1 _ _ _ hrow
 have c2:W.cell? ⟨w.heap.size,2,none⟩=some (.int .i64 B):=cell_of_row _ _ 2 _ _ _ hrow
 have HW:=hide hW
 have HBO:=hide hbo
 have HRW:=hide hrow
 have HS:=hide hs
 have HSZ:=hide (show ∀ k,s.own k∨sS xb sb cb k→k<w.heap.size from fun k hk=>by
  rcases hk with e | e | e | e
  ·exact h.sw.inn.lt e
  ·rw [e];exact lt_heap h.st
  ·rw [e];exact lt_heap h.sw.blk
  ·rw [e];exact h.sw.cm.lt)
 clear h hW hbo hrow hs hpk hK hN hB hk
 go_enter Tryz.func11,Tryz.ntmps11
 go_upto_region 1 with fail
 rw [← HW.out]
 go_wp2_with fail
 refine (HP.out _).mono ?_
 rintro _ w1 ⟨rfl,hw1⟩
 rw [hw1]
 dsimp only
 clear hw1
 go_wp2_with fail
 obtain ⟨bx,hbx⟩ : ∃ bx,bx=w.heap.size:=⟨_,rfl⟩
 rw [← hbx] at c1 c2 HRW ⊢
 have HBX:=hide hbx
 have hdr:Below W.heap.size W W.drew:=(Below.refl _ _).drew
 have hS0:W.drew.cell? ⟨bx,1,none⟩=some (.int .i64 N)∧W.drew.cell? ⟨bx,2,none⟩=some (.int .i64 B):=⟨cell_later hdr c1,cell_later hdr c2⟩
 have HC1:=hide c1
 have HC2:=hide c2
 clear hbx c0 c1 c2
 go_region_held3 (fun w'=>w'.cell? ⟨bx,1,none⟩=some (.int .i64 N)∧w'.cell? ⟨bx,2,none⟩=some (.int .i64 B)) (first | exact hS0 | exact hS1 | exact hS2 | exact hS3 | exact hS4 | go_keep) ((first
  | (go_at_call 37;refine (HNM.out _).mono ?_;rintro _ w2 ⟨rfl,hb2⟩;have hbn:Below W.heap.size W w2:=hdr.trans hb2;have hS1:w2.cell? ⟨bx,1,none⟩=some (.int .i64 N)∧w2.cell? ⟨bx,2,none⟩=some (.int .i64 B):=⟨cell_later hbn HC1.out,cell_later hbn HC2.out⟩)
  | (go_at_call 31;refine (HCT.out _).mono ?_;rintro _ w3 ⟨rfl,hb3⟩;have hbc:Below W.heap.size W w3:=hbn.trans (hb3.mono hbn.size);have hS2:w3.cell? ⟨bx,1,none⟩=some (.int .i64 N)∧w3.cell? ⟨bx,2,none⟩=some (.int .i64 B):=⟨cell_later hbc HC1.out,cell_later hbc HC2.out⟩)
  | (go_at_call 35;refine (HHS.out _ (HS.out.later hbc).sw.gl).mono ?_;rintro _ w4 ⟨rfl,hb4⟩;have hbh:Below W.heap.size W w4:=hbc.trans (hb4.mono hbc.size);have hS3:w4.cell? ⟨bx,1,none⟩=some (.int .i64 N)∧w4.cell? ⟨bx,2,none⟩=some (.int .i64 B):=⟨cell_later hbh HC1.out,cell_later hbh HC2.out⟩)
  | (go_at_call 36;refine (HC.out _ (HS.out.later hbh)).mono ?_;rintro _ w5 ⟨h1,rfl,hsn⟩;have hsg:=hsn;obtain ⟨s9,tb9,cl9,hg9, -, -⟩:=hsg;have hr9:=(hg9.gr.block bx (Nat.lt_of_lt_of_le (lt_heap HRW.out) hbh.size) (fun e=>by have:=HSZ.out _ e;have:=HBX.out;omega)).trans ((hbh.block _ (lt_heap HRW.out)).trans HRW.out);have hS4:w5.cell? ⟨bx,1,none⟩=some (.int .i64 N)∧w5.cell? ⟨bx,2,none⟩=some (.int .i64 B):=⟨cell_of_row _ _ 1 _ _ _ hr9,cell_of_row _ _ 2 _ _ _ hr9⟩)))
 have HN:=hide (hsn.pre (HBO.out.trans (hbh.mono HBO.out.size)))
 have H1:=hide h1
 clear hsn h1 hg9 hr9 hS0 hS1 hS2 hS3 hS4 hb2 hb3 hb4 hbn hbc hbh HC hdr
 go_wp2_with fail
 refine bodyPost_ret (results_tmp2 rfl _ _ _) rfl ?_
 exact ⟨by rw [H1.out];rfl,HN.out⟩
theorem does_3 (h:SA w db xb sb cb s tb cl A r n cu) (hn:n≤300000) (hcu:cu≤90000000000) (K N B:Int) (hK:i64r K) (hN:i64r N) (hB:i64r B) (hk:pickN K 8=3) :
  Calls Tryz.prog 11 #[.pointer (some ⟨xb,0,none⟩),.agg #[.int .i64 K,.int .i64 N,.int .i64 B]] w fun e w'=>e = .returned (.tuple #[.string ((untPl A (nmT N)).run r A).1,.int .i64 ((untPl A (nmT N)).run r A).2.1])∧SaN w w' db xb sb cb s tb ((untPl A (nmT N)).run r A).2.2 r (n+1) (cu+n+20):=by
 have hpk:∀ w,Calls Tryz.prog 21 #[.int .i64 K,.int .i64 8] w fun e w'=>e = .returned (.int .i64 3)∧w'=w:=fun w=>by
  have:=pick_any K 8 (by decide) (by decide) hK.1 hK.2 w
  rw [hk] at this
  exact this
 have HP:=hide hpk
 have HCT:=hide (fun w=>content_of B hB.1 hB.2 w)
 have HNM:Hid (∀ w,Calls Tryz.prog 37 #[.int .i64 N] w fun e w'=>e = .returned (.string (nmT N))∧Below w.heap.size w w'):=hide (fun w=>name_any N hN.1 hN.2 w)
 have hbs:=conT_size B
 have hns:=nmT_size N
 have hnt:=nmT_tag N
 generalize conT B=bb at HCT hbs ⊢
 generalize nmT N=nn at HNM hns hnt ⊢
 have HC:=hide (fun (W:World) (hW:SA W db xb sb cb s tb cl A r n cu)=>saUntag hW hn hcu nn (by omega) hnt)
 generalize (untPl A nn).run r A=X at HC ⊢
 have hbo:Below w.heap.size w (w.alloc (.cells #[.int .i64 K,.int .i64 N,.int .i64 B] 31)):=(Below.refl _ _).alloc (Nat.le_refl _) _
 have hrow:(w.alloc (.cells #[.int .i64 K,.int .i64 N,.int .i64 B] 31)).heap[w.heap.size]? = some (.cells #[.int .i64 K,.int .i64 N,.int .i64 B] 31 (0,0)):=heap_alloc_new _ _
 obtain ⟨W,hW⟩ : ∃ W,W=w.alloc (.cells #[.int .i64 K,.int .i64 N,.int .i64 B] 31):=⟨_,rfl⟩
 rw [← hW] at hbo hrow
 have hs:=h.later hbo
 have c0:W.cell? ⟨w.heap.size,0,none⟩=some (.int .i64 K):=cell_of_row _ _ 0 _ _ _ hrow
 have c1:W.cell? ⟨w.heap.size,1,none⟩=some (.int .i64 N):=cell_of_row _ _ 1 _ _ _ hrow
 have c2:W.cell? ⟨w.heap.size,2,none⟩=some (.int .i64 B):=cell_of_row _ _ 2 _ _ _ hrow
 have HW:=hide hW
 have HBO:=hide hbo
 have HRW:=hide hrow
 have HS:=hide hs
 have HSZ:=hide (show ∀ k,s.own k∨sS xb sb cb k→k<w.heap.size from fun k hk=>by
  rcases hk with e | e | e | e
  ·exact h.sw.inn.lt e
  ·rw [e];exact lt_heap h.st
  ·rw [e];exact lt_heap h.sw.blk
  ·rw [e];exact h.sw.cm.lt)
 clear h hW hbo hrow hs hpk hK hN hB hk
 go_enter Tryz.func11,Tryz.ntmps11
 go_upto_region 1 with fail
 rw [← HW.out]
 go_wp2_with fail
 refine (HP.out _).mono ?_
 rintro _ w1 ⟨rfl,hw1⟩
 rw [hw1]
 dsimp only
 clear hw1
 go_wp2_with fail
 refine (HNM.out _).mono ?_
 rintro _ w2 ⟨rfl,hb2⟩
 dsimp only
 have HB2:=hide (HBO.out.trans (hb2.mono HBO.out.size))
 have HC2:=hide (HC.out w2 (HS.out.later hb2))
 clear hb2 c0 c1 c2 HC
 go_wp2_with fail
 refine (HC2.out).mono ?_
 rintro _ w3 ⟨h1,rfl,hsn⟩
 dsimp only
 have HN:=hide (hsn.pre HB2.out)
 have H1:=hide h1
 clear hsn HC2 h1
 go_wp2_with fail
 refine bodyPost_ret (results_tmp2 rfl _ _ _) rfl ?_
 exact ⟨by rw [H1.out];rfl,HN.out⟩
theorem does_4 (h:SA w db xb sb cb s tb cl A r n cu) (hn:n≤300000) (hcu:cu≤90000000000) (K N B:Int) (hK:i64r K) (hN:i64r N) (hB:i64r B) (hk:pickN K 8=4) :
  Calls Tryz.prog 11 #[.pointer (some ⟨xb,0,none⟩),.agg #[.int .i64 K,.int .i64 N,.int .i64 B]] w fun e w'=>e = .returned (.tuple #[.string ((pubPl A (nmT N) (conT B)).run r A).1,.int .i64 ((pubPl A (nmT N) (conT B)).run r A).2.1])∧SaN w w' db xb sb cb s tb ((pubPl A (nmT N) (conT B)).run r A).2.2 r (n+1) (cu+n+20):=by
 have hpk:∀ w,Calls Tryz.prog 21 #[.int .i64 K,.int .i64 8] w fun e w'=>e = .returned (.int .i64 4)∧w'=w:=fun w=>by
  have:=pick_any K 8 (by decide) (by decide) hK.1 hK.2 w
  rw [hk] at this
  exact this
 have HP:=hide hpk
 have HCT:=hide (fun w=>content_of B hB.1 hB.2 w)
 have HNM:Hid (∀ w,Calls Tryz.prog 37 #[.int .i64 N] w fun e w'=>e = .returned (.string (nmT N))∧Below w.heap.size w w'):=hide (fun w=>name_any N hN.1 hN.2 w)
 have hbs:=conT_size B
 have hns:=nmT_size N
 have hnt:=nmT_tag N
 generalize conT B=bb at HCT hbs ⊢
 generalize nmT N=nn at HNM hns hnt ⊢
 have HC:=hide (fun (W:World) (hW:SA W db xb sb cb s tb cl A r n cu)=>saPub hW hn hcu nn bb (by omega) hnt (by omega))
 generalize (pubPl A nn bb).run r A=X at HC ⊢
 have hbo:Below w.heap.size w (w.alloc (.cells #[.int .i64 K,.int .i64 N,.int .i64 B] 31)):=(Below.refl _ _).alloc (Nat.le_refl _) _
 have hrow:(w.alloc (.cells #[.int .i64 K,.int .i64 N,.int .i64 B] 31)).heap[w.heap.size]? = some (.cells #[.int .i64 K,.int .i64 N,.int .i64 B] 31 (0,0)):=heap_alloc_new _ _
 obtain ⟨W,hW⟩ : ∃ W,W=w.alloc (.cells #[.int .i64 K,.int .i64 N,.int .i64 B] 31):=⟨_,rfl⟩
 rw [← hW] at hbo hrow
 have hs:=h.later hbo
 have c0:W.cell? ⟨w.heap.size,0,none⟩=some (.int .i64 K):=cell_of_row _ _ 0 _ _ _ hrow
 have c1:W.cell? ⟨w.heap.size,1,none⟩=some (.int .i64 N):=cell_of_row _ _ 1 _ _ _ hrow
 have c2:W.cell? ⟨w.heap.size,2,none⟩=some (.int .i64 B):=cell_of_row _ _ 2 _ _ _ hrow
 have HW:=hide hW
 have HBO:=hide hbo
 have HRW:=hide hrow
 have HS:=hide hs
 have HSZ:=hide (show ∀ k,s.own k∨sS xb sb cb k→k<w.heap.size from fun k hk=>by
  rcases hk with e | e | e | e
  ·exact h.sw.inn.lt e
  ·rw [e];exact lt_heap h.st
  ·rw [e];exact lt_heap h.sw.blk
  ·rw [e];exact h.sw.cm.lt)
 clear h hW hbo hrow hs hpk hK hN hB hk
 go_enter Tryz.func11,Tryz.ntmps11
 go_upto_region 1 with fail
 rw [← HW.out]
 go_wp2_with fail
 refine (HP.out _).mono ?_
 rintro _ w1 ⟨rfl,hw1⟩
 rw [hw1]
 dsimp only
 clear hw1
 go_wp2_with fail
 obtain ⟨bx,hbx⟩ : ∃ bx,bx=w.heap.size:=⟨_,rfl⟩
 rw [← hbx] at c1 c2 HRW ⊢
 have HBX:=hide hbx
 have hdr:Below W.heap.size W W.drew:=(Below.refl _ _).drew
 have hS0:W.drew.cell? ⟨bx,1,none⟩=some (.int .i64 N)∧W.drew.cell? ⟨bx,2,none⟩=some (.int .i64 B):=⟨cell_later hdr c1,cell_later hdr c2⟩
 have HC1:=hide c1
 have HC2:=hide c2
 clear hbx c0 c1 c2
 go_region_held3 (fun w'=>w'.cell? ⟨bx,1,none⟩=some (.int .i64 N)∧w'.cell? ⟨bx,2,none⟩=some (.int .i64 B)) (first | exact hS0 | exact hS1 | exact hS2 | exact hS3 | exact hS4 | go_keep) ((first
  | (go_at_call 37;refine (HNM.out _).mono ?_;rintro _ w2 ⟨rfl,hb2⟩;have hbn:Below W.heap.size W w2:=hdr.trans hb2;have hS1:w2.cell? ⟨bx,1,none⟩=some (.int .i64 N)∧w2.cell? ⟨bx,2,none⟩=some (.int .i64 B):=⟨cell_later hbn HC1.out,cell_later hbn HC2.out⟩)
  | (go_at_call 31;refine (HCT.out _).mono ?_;rintro _ w3 ⟨rfl,hb3⟩;have hbc:Below W.heap.size W w3:=hbn.trans (hb3.mono hbn.size);have hS2:w3.cell? ⟨bx,1,none⟩=some (.int .i64 N)∧w3.cell? ⟨bx,2,none⟩=some (.int .i64 B):=⟨cell_later hbc HC1.out,cell_later hbc HC2.out⟩)
  | (go_at_call 25;refine (HC.out _ (HS.out.later hbc)).mono ?_;rintro _ w5 ⟨rfl,hsn⟩;have hsg:=hsn;obtain ⟨s9,tb9,cl9,hg9, -, -⟩:=hsg;have hr9:=(hg9.gr.block bx (Nat.lt_of_lt_of_le (lt_heap HRW.out) hbc.size) (fun e=>by have:=HSZ.out _ e;have:=HBX.out;omega)).trans ((hbc.block _ (lt_heap HRW.out)).trans HRW.out);have hS3:w5.cell? ⟨bx,1,none⟩=some (.int .i64 N)∧w5.cell? ⟨bx,2,none⟩=some (.int .i64 B):=⟨cell_of_row _ _ 1 _ _ _ hr9,cell_of_row _ _ 2 _ _ _ hr9⟩)))
 have HN:=hide (hsn.pre (HBO.out.trans (hbc.mono HBO.out.size)))
 clear hsn hg9 hr9 hS0 hS1 hS2 hS3 hb2 hb3 hbn hbc HC hdr
 go_wp2_with fail
 refine bodyPost_ret (results_tmp2 rfl _ _ _) rfl ?_
 exact ⟨rfl,HN.out⟩
theorem does_5 (h:SA w db xb sb cb s tb cl A r n cu) (hn:n≤300000) (hcu:cu≤90000000000) (K N B:Int) (hK:i64r K) (hN:i64r N) (hB:i64r B) (hk:pickN K 8=5) :
  Calls Tryz.prog 11 #[.pointer (some ⟨xb,0,none⟩),.agg #[.int .i64 K,.int .i64 N,.int .i64 B]] w fun e w'=>e = .returned (.tuple #[.string ((pubPl A (nmT N) (conT B)).run r A).1,.int .i64 ((pubPl A (nmT N) (conT B)).run r A).2.1])∧SaN w w' db xb sb cb s tb ((pubPl A (nmT N) (conT B)).run r A).2.2 r (n+1) (cu+n+20):=by
 have hpk:∀ w,Calls Tryz.prog 21 #[.int .i64 K,.int .i64 8] w fun e w'=>e = .returned (.int .i64 5)∧w'=w:=fun w=>by
  have:=pick_any K 8 (by decide) (by decide) hK.1 hK.2 w
  rw [hk] at this
  exact this
 have HP:=hide hpk
 have HCT:=hide (fun w=>content_of B hB.1 hB.2 w)
 have HNM:Hid (∀ w,Calls Tryz.prog 37 #[.int .i64 N] w fun e w'=>e = .returned (.string (nmT N))∧Below w.heap.size w w'):=hide (fun w=>name_any N hN.1 hN.2 w)
 have hbs:=conT_size B
 have hns:=nmT_size N
 have hnt:=nmT_tag N
 generalize conT B=bb at HCT hbs ⊢
 generalize nmT N=nn at HNM hns hnt ⊢
 have HC:=hide (fun (W:World) (hW:SA W db xb sb cb s tb cl A r n cu)=>saPub hW hn hcu nn bb (by omega) hnt (by omega))
 generalize (pubPl A nn bb).run r A=X at HC ⊢
 have hbo:Below w.heap.size w (w.alloc (.cells #[.int .i64 K,.int .i64 N,.int .i64 B] 31)):=(Below.refl _ _).alloc (Nat.le_refl _) _
 have hrow:(w.alloc (.cells #[.int .i64 K,.int .i64 N,.int .i64 B] 31)).heap[w.heap.size]? = some (.cells #[.int .i64 K,.int .i64 N,.int .i64 B] 31 (0,0)):=heap_alloc_new _ _
 obtain ⟨W,hW⟩ : ∃ W,W=w.alloc (.cells #[.int .i64 K,.int .i64 N,.int .i64 B] 31):=⟨_,rfl⟩
 rw [← hW] at hbo hrow
 have hs:=h.later hbo
 have c0:W.cell? ⟨w.heap.size,0,none⟩=some (.int .i64 K):=cell_of_row _ _ 0 _ _ _ hrow
 have c1:W.cell? ⟨w.heap.size,1,none⟩=some (.int .i64 N):=cell_of_row _ _ 1 _ _ _ hrow
 have c2:W.cell? ⟨w.heap.size,2,none⟩=some (.int .i64 B):=cell_of_row _ _ 2 _ _ _ hrow
 have HW:=hide hW
 have HBO:=hide hbo
 have HRW:=hide hrow
 have HS:=hide hs
 have HSZ:=hide (show ∀ k,s.own k∨sS xb sb cb k→k<w.heap.size from fun k hk=>by
  rcases hk with e | e | e | e
  ·exact h.sw.inn.lt e
  ·rw [e];exact lt_heap h.st
  ·rw [e];exact lt_heap h.sw.blk
  ·rw [e];exact h.sw.cm.lt)
 clear h hW hbo hrow hs hpk hK hN hB hk
 go_enter Tryz.func11,Tryz.ntmps11
 go_upto_region 1 with fail
 rw [← HW.out]
 go_wp2_with fail
 refine (HP.out _).mono ?_
 rintro _ w1 ⟨rfl,hw1⟩
 rw [hw1]
 dsimp only
 clear hw1
 go_wp2_with fail
 obtain ⟨bx,hbx⟩ : ∃ bx,bx=w.heap.size:=⟨_,rfl⟩
 rw [← hbx] at c1 c2 HRW ⊢
 have HBX:=hide hbx
 have hdr:Below W.heap.size W W.drew:=(Below.refl _ _).drew
 have hS0:W.drew.cell? ⟨bx,1,none⟩=some (.int .i64 N)∧W.drew.cell? ⟨bx,2,none⟩=some (.int .i64 B):=⟨cell_later hdr c1,cell_later hdr c2⟩
 have HC1:=hide c1
 have HC2:=hide c2
 clear hbx c0 c1 c2
 go_region_held3 (fun w'=>w'.cell? ⟨bx,1,none⟩=some (.int .i64 N)∧w'.cell? ⟨bx,2,none⟩=some (.int .i64 B)) (first | exact hS0 | exact hS1 | exact hS2 | exact hS3 | exact hS4 | go_keep) ((first
  | (go_at_call 37;refine (HNM.out _).mono ?_;rintro _ w2 ⟨rfl,hb2⟩;have hbn:Below W.heap.size W w2:=hdr.trans hb2;have hS1:w2.cell? ⟨bx,1,none⟩=some (.int .i64 N)∧w2.cell? ⟨bx,2,none⟩=some (.int .i64 B):=⟨cell_later hbn HC1.out,cell_later hbn HC2.out⟩)
  | (go_at_call 31;refine (HCT.out _).mono ?_;rintro _ w3 ⟨rfl,hb3⟩;have hbc:Below W.heap.size W w3:=hbn.trans (hb3.mono hbn.size);have hS2:w3.cell? ⟨bx,1,none⟩=some (.int .i64 N)∧w3.cell? ⟨bx,2,none⟩=some (.int .i64 B):=⟨cell_later hbc HC1.out,cell_later hbc HC2.out⟩)
  | (go_at_call 25;refine (HC.out _ (HS.out.later hbc)).mono ?_;rintro _ w5 ⟨rfl,hsn⟩;have hsg:=hsn;obtain ⟨s9,tb9,cl9,hg9, -, -⟩:=hsg;have hr9:=(hg9.gr.block bx (Nat.lt_of_lt_of_le (lt_heap HRW.out) hbc.size) (fun e=>by have:=HSZ.out _ e;have:=HBX.out;omega)).trans ((hbc.block _ (lt_heap HRW.out)).trans HRW.out);have hS3:w5.cell? ⟨bx,1,none⟩=some (.int .i64 N)∧w5.cell? ⟨bx,2,none⟩=some (.int .i64 B):=⟨cell_of_row _ _ 1 _ _ _ hr9,cell_of_row _ _ 2 _ _ _ hr9⟩)))
 have HN:=hide (hsn.pre (HBO.out.trans (hbc.mono HBO.out.size)))
 clear hsn hg9 hr9 hS0 hS1 hS2 hS3 hb2 hb3 hbn hbc HC hdr
 go_wp2_with fail
 refine bodyPost_ret (results_tmp2 rfl _ _ _) rfl ?_
 exact ⟨rfl,HN.out⟩
theorem does_6 (h:SA w db xb sb cb s tb cl A r n cu) (hn:n≤300000) (hcu:cu≤90000000000) (K N B:Int) (hK:i64r K) (hN:i64r N) (hB:i64r B) (hk:pickN K 8=6) :
  Calls Tryz.prog 11 #[.pointer (some ⟨xb,0,none⟩),.agg #[.int .i64 K,.int .i64 N,.int .i64 B]] w fun e w'=>e = .returned (.tuple #[.string ((delPl A (conT B)).run r A).1,.int .i64 ((delPl A (conT B)).run r A).2.1])∧SaN w w' db xb sb cb s tb ((delPl A (conT B)).run r A).2.2 r (n+1) (cu+n+20):=by
 have hpk:∀ w,Calls Tryz.prog 21 #[.int .i64 K,.int .i64 8] w fun e w'=>e = .returned (.int .i64 6)∧w'=w:=fun w=>by
  have:=pick_any K 8 (by decide) (by decide) hK.1 hK.2 w
  rw [hk] at this
  exact this
 have HP:=hide hpk
 have HCT:=hide (fun w=>content_of B hB.1 hB.2 w)
 have HNM:Hid (∀ w,Calls Tryz.prog 37 #[.int .i64 N] w fun e w'=>e = .returned (.string (nmT N))∧Below w.heap.size w w'):=hide (fun w=>name_any N hN.1 hN.2 w)
 have hbs:=conT_size B
 have hns:=nmT_size N
 have hnt:=nmT_tag N
 generalize conT B=bb at HCT hbs ⊢
 generalize nmT N=nn at HNM hns hnt ⊢
 have HC:=hide (fun (W:World) (hW:SA W db xb sb cb s tb cl A r n cu)=>saDel hW hn hcu bb)
 have HHS:=hide (fun (W:World) (hg:Gl W)=>hashK bb W (by omega) hg)
 generalize (delPl A bb).run r A=X at HC ⊢
 generalize hxB bb=hh at HC HHS
 have hbo:Below w.heap.size w (w.alloc (.cells #[.int .i64 K,.int .i64 N,.int .i64 B] 31)):=(Below.refl _ _).alloc (Nat.le_refl _) _
 have hrow:(w.alloc (.cells #[.int .i64 K,.int .i64 N,.int .i64 B] 31)).heap[w.heap.size]? = some (.cells #[.int .i64 K,.int .i64 N,.int .i64 B] 31 (0,0)):=heap_alloc_new _ _
 obtain ⟨W,hW⟩ : ∃ W,W=w.alloc (.cells #[.int .i64 K,.int .i64 N,.int .i64 B] 31):=⟨_,rfl⟩
 rw [← hW] at hbo hrow
 have hs:=h.later hbo
 have c0:W.cell? ⟨w.heap.size,0,none⟩=some (.int .i64 K):=cell_of_row _ _ 0 _ _ _ hrow
 have c1:W.cell? ⟨w.heap.size,1,none⟩=some (.int .i64 N):=cell_of_row _ _ 1 _ _ _ hrow
 have c2:W.cell? ⟨w.heap.size,2,none⟩=some (.int .i64 B):=cell_of_row _ _ 2 _ _ _ hrow
 have HW:=hide hW
 have HBO:=hide hbo
 have HRW:=hide hrow
 have HS:=hide hs
 have HSZ:=hide (show ∀ k,s.own k∨sS xb sb cb k→k<w.heap.size from fun k hk=>by
  rcases hk with e | e | e | e
  ·exact h.sw.inn.lt e
  ·rw [e];exact lt_heap h.st
  ·rw [e];exact lt_heap h.sw.blk
  ·rw [e];exact h.sw.cm.lt)
 clear h hW hbo hrow hs hpk hK hN hB hk
 go_enter Tryz.func11,Tryz.ntmps11
 go_upto_region 1 with fail
 rw [← HW.out]
 go_wp2_with fail
 refine (HP.out _).mono ?_
 rintro _ w1 ⟨rfl,hw1⟩
 rw [hw1]
 dsimp only
 clear hw1
 go_wp2_with fail
 refine (HCT.out _).mono ?_
 rintro _ w2 ⟨rfl,hb2⟩
 dsimp only
 have hs2:=HS.out.later hb2
 have HB2:=hide (HBO.out.trans (hb2.mono HBO.out.size))
 have HH2:=hide (HHS.out w2 hs2.sw.gl)
 have HS2:=hide hs2
 clear hb2 c0 c1 c2 hs2
 go_wp2_with fail
 refine (HH2.out).mono ?_
 rintro _ w4 ⟨rfl,hb4⟩
 dsimp only
 have HB4:=hide (HB2.out.trans (hb4.mono HB2.out.size))
 have HC2:=hide (HC.out w4 (HS2.out.later hb4))
 clear hb4 HC HH2
 go_wp2_with fail
 refine (HC2.out).mono ?_
 rintro _ w3 ⟨h1,rfl,hsn⟩
 dsimp only
 have HN:=hide (hsn.pre HB4.out)
 have H1:=hide h1
 clear hsn HC2 h1
 go_wp2_with fail
 refine bodyPost_ret (results_tmp2 rfl _ _ _) rfl ?_
 exact ⟨by rw [H1.out];rfl,HN.out⟩
theorem does_7 (h:SA w db xb sb cb s tb cl A r n cu) (hn:n≤300000) (hcu:cu≤90000000000) (K N B:Int) (hK:i64r K) (hN:i64r N) (hB:i64r B) (hk:pickN K 8=7) :
  Calls Tryz.prog 11 #[.pointer (some ⟨xb,0,none⟩),.agg #[.int .i64 K,.int .i64 N,.int .i64 B]] w fun e w'=>e = .returned (.tuple #[.string ((pruPl A).run r A).1,.int .i64 ((pruPl A).run r A).2.1])∧SaN w w' db xb sb cb s tb ((pruPl A).run r A).2.2 r (n+1) (cu+n+20):=by
 have hpk:∀ w,Calls Tryz.prog 21 #[.int .i64 K,.int .i64 8] w fun e w'=>e = .returned (.int .i64 7)∧w'=w:=fun w=>by
  have:=pick_any K 8 (by decide) (by decide) hK.1 hK.2 w
  rw [hk] at this
  exact this
 have HP:=hide hpk
 have HCT:=hide (fun w=>content_of B hB.1 hB.2 w)
 have HNM:Hid (∀ w,Calls Tryz.prog 37 #[.int .i64 N] w fun e w'=>e = .returned (.string (nmT N))∧Below w.heap.size w w'):=hide (fun w=>name_any N hN.1 hN.2 w)
 have hbs:=conT_size B
 have hns:=nmT_size N
 have hnt:=nmT_tag N
 generalize conT B=bb at HCT hbs ⊢
 generalize nmT N=nn at HNM hns hnt ⊢
 have hun:untN A≤1000000:=by
  have h1:(unT A.tg (dlA A)).length≤(dlA A).length:=List.length_filter_le _ _
  have h2:(dlA A).length=A.cs.length:=List.length_map _
  have:=h.len
  unfold untN
  omega
 have HC:=hide (fun (W:World) (hW:SA W db xb sb cb s tb cl A r n cu)=>saPrune hW hn hcu)
 have HDC:=hide (fun W=>decimalB_any (untN A) hun W)
 generalize hUN:untN A=un at HC HDC hun
 clear hUN
 generalize (pruPl A).run r A=X at HC ⊢
 have hbo:Below w.heap.size w (w.alloc (.cells #[.int .i64 K,.int .i64 N,.int .i64 B] 31)):=(Below.refl _ _).alloc (Nat.le_refl _) _
 have hrow:(w.alloc (.cells #[.int .i64 K,.int .i64 N,.int .i64 B] 31)).heap[w.heap.size]? = some (.cells #[.int .i64 K,.int .i64 N,.int .i64 B] 31 (0,0)):=heap_alloc_new _ _
 obtain ⟨W,hW⟩ : ∃ W,W=w.alloc (.cells #[.int .i64 K,.int .i64 N,.int .i64 B] 31):=⟨_,rfl⟩
 rw [← hW] at hbo hrow
 have hs:=h.later hbo
 have c0:W.cell? ⟨w.heap.size,0,none⟩=some (.int .i64 K):=cell_of_row _ _ 0 _ _ _ hrow
 have c1:W.cell? ⟨w.heap.size,1,none⟩=some (.int .i64 N):=cell_of_row _ _ 1 _ _ _ hrow
 have c2:W.cell? ⟨w.heap.size,2,none⟩=some (.int .i64 B):=cell_of_row _ _ 2 _ _ _ hrow
 have HW:=hide hW
 have HBO:=hide hbo
 have HRW:=hide hrow
 have HS:=hide hs
 have HSZ:=hide (show ∀ k,s.own k∨sS xb sb cb k→k<w.heap.size from fun k hk=>by
  rcases hk with e | e | e | e
  ·exact h.sw.inn.lt e
  ·rw [e];exact lt_heap h.st
  ·rw [e];exact lt_heap h.sw.blk
  ·rw [e];exact h.sw.cm.lt)
 clear h hW hbo hrow hs hpk hK hN hB hk
 go_enter Tryz.func11,Tryz.ntmps11
 go_upto_region 1 with fail
 rw [← HW.out]
 go_wp2_with fail
 refine (HP.out _).mono ?_
 rintro _ w1 ⟨rfl,hw1⟩
 rw [hw1]
 dsimp only
 clear hw1
 go_wp2_with fail
 refine (HC.out W HS.out).mono ?_
 rintro _ w2 ⟨hX,rfl,hsn⟩
 dsimp only
 have HN:=hide (hsn.pre HBO.out)
 have HX:=hide hX
 clear hsn hX c0 c1 c2 HC
 go_wp2_with fail
 refine (HDC.out _).mono ?_
 rintro _ w3 ⟨rfl,hb3⟩
 dsimp only
 have HN3:=hide (HN.out.post hb3)
 clear hb3 HDC
 go_wp2_with fail
 refine bodyPost_ret (results_tmp2 rfl _ _ _) rfl ?_
 exact ⟨by rw [HX.out];rfl,HN3.out⟩
theorem does_any (h:SA w db xb sb cb s tb cl A r n cu) (hn:n≤300000) (hcu:cu≤90000000000) (K N B:Int) (hK:i64r K) (hN:i64r N) (hB:i64r B) :
  Calls Tryz.prog 11 #[.pointer (some ⟨xb,0,none⟩),.agg #[.int .i64 K,.int .i64 N,.int .i64 B]] w fun e w'=>e = .returned (.tuple #[.string ((dsPl A K N B).run r A).1,.int .i64 ((dsPl A K N B).run r A).2.1])∧SaN w w' db xb sb cb s tb ((dsPl A K N B).run r A).2.2 r (n+1) (cu+n+20):=by
 have h8:=pickN_lt K 8 (by decide)
 unfold dsPl
 match hk:pickN K 8,h8 with
 | 0,_=>exact does_0 h hn hcu K N B hK hN hB hk
 | 1,_=>exact does_1 h hn hcu K N B hK hN hB hk
 | 2,_=>exact does_2 h hn hcu K N B hK hN hB hk
 | 3,_=>exact does_3 h hn hcu K N B hK hN hB hk
 | 4,_=>exact does_4 h hn hcu K N B hK hN hB hk
 | 5,_=>exact does_5 h hn hcu K N B hK hN hB hk
 | 6,_=>exact does_6 h hn hcu K N B hK hN hB hk
 | 7,_=>exact does_7 h hn hcu K N B hK hN hB hk
end
end Go.Proofs.YtncigfibncmioaaGreatDoor

/-
  PROVED HERE: a disk at rest with a store on it: what Break, Crash, Copy and Open of the program leave of it.
-/
namespace Go.Proofs.YtncigfibncmioaaGreatDoor
open Go.RowKit
structure DQ (w:World) (d:Nat) (s:PSt) (A:Sto) (r:Int) (n cu:Nat):Prop where
 dk:DkW w d s
 rq:Rq s.ds A r
 c0:0≤s.ds.R.count
 c1:s.ds.R.count≤(cu:Int)
 len:A.cs.length≤n
 good:GoodA A
 use:(szA A:Int)≤r
 r0:0≤r
 r1:r≤9223372036854775807
theorem DFit.ofOff {D:DS} {L C B:Nat} (h:DFit (offL D) L C B) (l0 : -1≤D.R.left) (l1:D.R.left≤9223372036854775807):DFit D L C B :=
 ⟨h.len,h.c0,h.c1,l0,l1,h.r0,h.r1,h.dat,h.chf,⟨h.inv.go,h.inv.ne⟩,h.inow,h.isafe,h.ichg,h.rise⟩
theorem offL_self {D:DS} (h:D.R.left = -1):offL D=D:=by
 obtain ⟨⟨room,now,safe,chg,count,left⟩,fs,fd⟩:=D
 simp only at h
 subst h
 rfl
section
variable {w:World} {d:Nat} {s:PSt} {A:Sto} {r:Int} {n cu:Nat}
theorem DQ.fit (h:DQ w d s A r n cu):DFit s.ds (n+3) cu 2000 :=
 DFit.ofOff ((h.rq.rst.fit (C:=cu) h.c0 h.c1 h.r0 h.r1).mono (by rw [fA_len];have:=h.len;omega) (Nat.le_refl _) (Nat.le_refl _)) h.rq.l0 h.rq.l1
theorem DQ.small (h:DQ w d s A r n cu):∀ e∈s.R.now,e.path.size≤80:=fun e he=>by
 have hv:s.ds.R.now.map (vwE s.ds.fd)=fA A:=h.rq.vw
 have hm:vwE s.fd e∈fA A:=by rw [← hv];exact List.mem_map_of_mem he
 have:=fA_path hm
 exact path_size this
theorem SA.dq {db xb sb cb tb:Nat} {cl:List (List Nat)} (h:SA w db xb sb cb s tb cl A r n cu):DQ w db s A r n cu :=
 ⟨h.dk,⟨by rw [offL_self h.rst.wh.left];exact h.rst,by rw [h.rst.wh.left];decide,by rw [h.rst.wh.left];decide⟩,h.c0,h.c1,h.len,h.good,h.use,h.r0,h.r1⟩
theorem DQ.go {w':World} (h:DQ w d s A r n cu) (hg:PGo s s w w'):DQ w' d s A r n cu:=⟨h.dk.go hg,h.rq,h.c0,h.c1,h.len,h.good,h.use,h.r0,h.r1⟩
theorem bCrash_inv (s:PSt) (d:Nat) (paths:Int) (kv:Value) (ks:List Int) (w:World) {L C B:Nat} (h:DkW w d s) (hk:KAt s.own w kv ks) (hf:DFit s.ds L C B) (hL:L≤1000000) (hB:B≤1000000) :
  Calls Tryz.prog 16 #[.pointer (some ⟨d,0,none⟩),.int .i64 paths,kv] w fun e w'=>e = .returned (.int .i64 0)∧∃ s',PGo s s' w w'∧s'.ds=crD s.ds (nCr paths s.R.chg.length) ks:=by
 have hLe:(s.R.chg.take (nCr paths s.R.chg.length)).foldl applyE s.R.safe=goE s.R.safe (s.R.chg.take (nCr paths s.R.chg.length)):=goE_apply _ hf.inv.ne
 refine wCrash d s.b paths kv (fun w'=>∃ s',PGo s s' w w'∧s'.ds=crD s.ds (nCr paths s.R.chg.length) ks) w h.bd ((pdCrash s paths kv ks w h.inn hk ⟨?_,hf.chf,fun f hf'=>?_⟩ _ hLe.symm ?_).mono ?_)
 ·have:=hf.len
  show s.R.safe.length+s.R.chg.length≤100000000
  have:s.R.safe.length+s.R.chg.length≤L:=this
  omega
 ·obtain ⟨a,b,c⟩:=hf.dat f hf'
  exact ⟨by have:(s.fd f).1.size≤B:=a;omega,b,c⟩
 ·intro e he'
  rcases goE_mem _ he' with he' | ⟨c,hc,e1⟩
  ·exact hf.isafe e he'
  ·rw [e1]
   exact hf.ichg c (List.mem_of_mem_take hc)
 ·rintro e w' ⟨rfl,s',hg,h1,h2,h3⟩
  refine ⟨rfl,s',hg,?_⟩
  unfold PSt.ds crD
  rw [h1,h2,h3]
theorem dqCrash (h:DQ w d s A r n cu) (hn:n≤300000) (paths:Int) (kv:Value) (ks:List Int) (hk:KAt s.own w kv ks) :
  Calls Tryz.prog 16 #[.pointer (some ⟨d,0,none⟩),.int .i64 paths,kv] w fun e w'=>e = .returned (.int .i64 0)∧∃ s',PGo s s' w w'∧DQ w' d s' A r n cu∧s'.ds.R.left = -1:=by
 refine (bCrash_inv s d paths kv ks w h.dk hk h.fit (by omega) (by omega)).mono ?_
 rintro e w' ⟨rfl,s',hg,hd⟩
 rw [h.rq.crash] at hd
 refine ⟨rfl,s',hg,⟨h.dk.go hg,?_,?_,?_,h.len,h.good,h.use,h.r0,h.r1⟩,?_⟩
 ·rw [hd];exact h.rq.off
 ·rw [hd];exact h.c0
 ·rw [hd];exact h.c1
 ·rw [hd];rfl
theorem dqCopy (h:DQ w d s A r n cu) (hn:n≤300000) :
  Calls Tryz.prog 18 #[.pointer (some ⟨d,0,none⟩)] w fun e w'=>∃ d' so,e = .returned (.tuple #[.pointer (some ⟨d',0,none⟩),.int .i64 0])∧Below w.heap.size w w'∧w.heap.size≤d'∧(∀ k,so.own k→w.heap.size≤k)∧DQ w' d' so A r n 0∧so.ds.R.left = -1:=by
 have hnl:s.R.now.length≤n+3:=h.fit.nowLen
 refine (wCopy d s.b (fun g w'=>∃ so:PSt,so.b=g∧Below w.heap.size w w'∧so.In w'∧(∀ k,so.own k→w.heap.size≤k)∧Rst so.ds (fA A) r 2000∧so.R.count=0) w h.dk.bd ((pdCopy s w h.dk.inn h.fit.r0 (by omega) (fun f hf'=>by have:(s.fd f).1.size≤2000:=(h.fit.dat f hf').1;omega)).mono ?_)).mono ?_
 ·rintro e w' ⟨so,ψ,rfl,hb,hin,hown,hR,hc⟩
  obtain ⟨a1,a2⟩:=copy_rq h.rq (fun x hx=>fA_small h.good hx) hin hR hc
  exact ⟨so.b,rfl,so.cut,rfl,hb,hin.cut (by rw [hR]) (by rw [hR]),fun k hk=>hown k (hin.cutOwn hk),a1,a2⟩
 ·rintro e w' ⟨g,w1,rfl,rfl,so,rfl,hb,hin,hown,e1,e2⟩
  have hba:=hb.alloc hb.size (.cells #[.pointer (some ⟨so.b,0,none⟩)] 90)
  refine ⟨w1.heap.size,so,rfl,hba,hb.size,hown,⟨⟨hin.later ((Below.refl _ _).alloc (Nat.le_refl _) _),heap_alloc_new _ _,h.dk.gl.later hba,fun k hk hG=>by have:=hown k hk;have:=h.dk.gl.lt hG;omega⟩,⟨by rw [offL_self e1.wh.left];exact e1,by rw [e1.wh.left];decide,by rw [e1.wh.left];decide⟩,by show 0≤so.R.count;omega,by show so.R.count≤_;omega,h.len,h.good,h.use,h.r0,h.r1⟩,e1.wh.left⟩
theorem dqOpen (h:DQ w d s A r n cu) (hn:n≤300000) (hcu:cu≤90000000000) :
  Calls Tryz.prog 17 #[.pointer (some ⟨d,0,none⟩)] w fun e w'=>∃ s' xb sb cb tb cl,e = .returned (.tuple #[.pointer (some ⟨xb,0,none⟩),.int .i64 0])∧PGo s s' w w'∧DQ w' d s' A r n (cu+1)∧(s.ds.R.left = -1→SA w' d xb sb cb s' tb cl A r n (cu+1))∧(w.heap.size≤xb∧w.heap.size≤sb∧w.heap.size≤cb∧w.heap.size≤tb):=by
 have hnl:s.R.now.length≤n+3:=h.fit.nowLen
 refine (bOpen_rest s A.tg w d h.dk.inn h.dk.gl h.dk.low h.fit (show Bud _ _ _ from ⟨by omega,by omega,by omega⟩) (fun e he=>Nat.le_trans (h.small e he) (by decide)) (h.rq.qui h.good) h.dk.bd).mono ?_
 rintro e w' ⟨k,s',sv,rfl,hg,hr,hok, -⟩
 obtain ⟨rfl,hq,hl,h1,h2⟩:=h.rq.open hr
 obtain ⟨xb,sb,cb,tb,rfl,hbst,hlb,hlx,hst⟩:=hok rfl
 have hc0:=h.c0
 have hc1:=h.c1
 have hdq:DQ w' d s' A r n (cu+1):=⟨h.dk.go hg,hq,by omega,by omega,h.len,h.good,h.use,h.r0,h.r1⟩
 refine ⟨s',xb,sb,cb,tb,ctF s.R.now,rfl,hg,hdq,fun e=>?_,hlx,hlb.1,hlb.2.1,hlb.2.2⟩
 have hl':=hl e
 have hrst:Rst s'.ds (fA A) r 2000:=by
  have:=hq.rst
  rwa [offL_self hl'] at this
 exact ⟨hbst,fun e=>by have:=h.dk.gl.lt e;omega,hst,(h.dk.go hg).bd,ctF_ok,h.rq.cont,h.len,hrst,by omega,by omega,h.good,h.use,h.r0,h.r1⟩
end
end Go.Proofs.YtncigfibncmioaaGreatDoor

/-
  PROVED HERE: what Get, Tags and Blobs of the program's store at rest answer.
-/
namespace Go.Proofs.YtncigfibncmioaaGreatDoor
open Go.RowKit
def tC (t:TE):List Value:=[.string t.n,.string (dtx t.d),.int .i64 t.z]
def bC (b:ByteArray):List Value:=[.string (hxB b),.int .i64 (b.size:Int)]
theorem told_tg:∀ {l:List TE},(∀ t∈l,t.Ok)→((l.map TE.tg).map Tg.told).flatMap Tg.cells=l.flatMap tC
 | [],_=>rfl
 | t :: l,h=>by
  have ih:=told_tg (l:=l) (fun x hx=>h x (by simp [hx]))
  have ht:=h t (by simp)
  have e:Tg.told t.tg=t.tg:=by
   unfold Tg.told TE.tg
   dsimp only
   rw [rd_dtx t.d ht.len ht.lt]
   rfl
  rw [List.map_cons,List.map_cons,List.flatMap_cons,List.flatMap_cons,ih,e]
  rfl
theorem flat_congr {α β γ:Type} (f:α→β) (g:β→List γ) (k:α→List γ):∀ l:List α,(∀ x∈l,g (f x)=k x)→(l.map f).flatMap g=l.flatMap k
 | [],_=>rfl
 | x :: l,h=>by
  rw [List.map_cons,List.flatMap_cons,List.flatMap_cons,h x (by simp),flat_congr f g k l (fun y hy=>h y (by simp [hy]))]
section
variable {w:World} {db xb sb cb:Nat} {s:PSt} {tb:Nat} {cl:List (List Nat)} {A:Sto} {r:Int} {n cu:Nat}
theorem saGet (h:SA w db xb sb cb s tb cl A r n cu) {b c:ByteArray} (hc:conC A b=some c) :
  Calls Tryz.prog 34 #[.pointer (some ⟨xb,0,none⟩),.string (hxB b)] w fun e w'=>e = .returned (.tuple #[.string c,.int .i64 0])∧SGo (sS xb sb cb) s s w w'∧SA w' db xb sb cb s tb cl A r n cu:=by
 have hh:=h.has b
 rw [show findK kC (kC b) A.cs=some c from hc] at hh
 refine (bGet_any xb sb s cb tb cl.length (cD cl) A.tg (hxB b) w h.st h.hG h.sw (unitC_cD cl) (hx_dig b) (by rw [hx_rd];exact hh) (fun t ht=>by rw [hx_rd,h.rd b] at ht;have:=h.con300 ht;omega)).mono ?_
 rintro e w' ⟨rfl,hg,hx,hst⟩
 refine ⟨?_,hg,h.same hg hx hst⟩
 rw [hx_rd,h.con b,hc]
 rfl
theorem saTags (h:SA w db xb sb cb s tb cl A r n cu) :
  Calls Tryz.prog 42 #[.pointer (some ⟨xb,0,none⟩)] w fun e w'=>∃ v,e = .returned (.tuple #[v,.int .i64 0])∧w'.ownsRow w.heap.size 83 3 v A.tg.length (A.tg.flatMap tC)∧SGo (sS xb sb cb) s s w w'∧SA w' db xb sb cb s tb cl A r n cu:=by
 refine (bTags_many xb sb s cb tb cl.length (cD cl) A.tg w h.st h.hG h.sw h.good.tok h.good.t8).mono ?_
 rintro e w' ⟨v,rfl,hrow,hg,hx,hst⟩
 rw [told_tg h.good.tok] at hrow
 exact ⟨v,rfl,hrow,hg,h.same hg hx hst⟩
theorem blC_dv (h:SA w db xb sb cb s tb cl A r n cu) {b:ByteArray} (hb:b∈A.cs):blC s.ds (dvC b)=bC b:=by
 have hc:conC A b=some b:=findK_mem h.good.rise hb
 unfold blC bC
 rw [dvC_val,h.rd b,hc]
 rfl
theorem blC_bC (h:SA w db xb sb cb s tb cl A r n cu):(dlA A).flatMap (blC s.ds)=A.cs.flatMap bC:=flat_congr dvC (blC s.ds) bC A.cs (fun _ hb=>blC_dv h hb)
theorem saBlobs (h:SA w db xb sb cb s tb cl A r n cu) (hn:n≤300000) :
  Calls Tryz.prog 32 #[.pointer (some ⟨xb,0,none⟩)] w fun e w'=>∃ v,e = .returned (.tuple #[v,.int .i64 0])∧w'.ownsRow w.heap.size 73 2 v A.cs.length (A.cs.flatMap bC)∧SGo (sS xb sb cb) s s w w'∧SA w' db xb sb cb s tb cl A r n cu:=by
 have hdl:(dlA A).length=A.cs.length:=List.length_map _
 have hlen:=h.len
 refine (bBlobs_many xb sb s cb tb cl.length A.tg cl (dlA A) w h.st h.hG h.sw h.ok (dl_rise h.good.rise) (fun x=>by rw [dl_mem,h.mem]) (by have:=h.clen;omega) (by omega)).mono ?_
 rintro e w' ⟨v,rfl,hrow,hg,hx,hst⟩
 rw [blC_bC h,hdl] at hrow
 exact ⟨v,rfl,hrow,hg,h.same hg hx hst⟩
theorem SGo.lowN {w':World} {s':PSt} {N:Nat} (hg:SGo (sS xb sb cb) s s' w w') (hN:∀ k,s.own k∨sS xb sb cb k→N≤k) (hw:N≤w.heap.size):Below N w w' :=
 ⟨hg.gr.os,hg.gr.tape,hg.gr.output,hg.gr.size,fun k hk=>hg.gr.block k (by omega) (fun e=>by have:=hN k e;omega)⟩
theorem SA.lt (h:SA w db xb sb cb s tb cl A r n cu):∀ k,fpr s xb sb cb tb k→k<w.heap.size:=fun k hk=>by
 rcases hk with e | e | e
 ·exact h.sw.inn.lt e
 ·rcases e with e | e | e
  ·rw [e];exact lt_heap h.st
  ·rw [e];exact lt_heap h.sw.blk
  ·rw [e];exact h.sw.cm.lt
 ·rw [e];exact h.sw.tm.lt
end
end Go.Proofs.YtncigfibncmioaaGreatDoor
