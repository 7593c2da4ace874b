/-
  PROVED HERE: what the program's function Print of package index answers for the entries of an index; nothing that was there has turned.
-/
import Derived.Test.YtncigfibncmioaaGreatDoorKCont
import Derived.Test.YtncigfibncmioaaGreatDoorShelfP
import Derived.Lib.ItoaLen
namespace Go.Proofs.YtncigfibncmioaaGreatDoor
set_option maxHeartbeats 2000000
set_option maxRecDepth 100000
open Go.RowKit
theorem tab_later {w w':World} {B:Nat} {name:String} {g:Nat} {k:IntKind} {zs:List Int} (hg:Tryz.prog.globalNamed name=some g) (hB:g<B) (h:Lib.TabIs Tryz.prog w name k zs) (hb:Below B w w'):Lib.TabIs Tryz.prog w' name k zs:=by
 unfold Lib.TabIs World.var? at h ⊢
 rw [hg] at h ⊢
 simp only [Option.bind_some] at h ⊢
 rw [hb.block g hB]
 exact h
theorem gPow:Tryz.prog.globalNamed "internal/strconv.uint64pow10" = some 3:=by kernel_rfl
theorem tab_lt {w:World} {name:String} {g:Nat} {k:IntKind} {zs:List Int} (hg:Tryz.prog.globalNamed name=some g) (h:Lib.TabIs Tryz.prog w name k zs):g<w.heap.size:=by
 unfold Lib.TabIs World.var? at h
 rw [hg] at h
 simp only [Option.bind_some] at h
 cases hq:w.heap[g]? with
 | none=>rw [hq] at h;cases h
 | some o=>exact lt_of_row' hq
theorem itoa_any (z:Int) (h0:0≤z) (h1:z≤300) (w:World) (htab:Lib.TabIs Tryz.prog w "internal/strconv.uint64pow10" .u64 Lib.pow10Tab) :
  Calls Tryz.prog 131 #[.int .i64 z] w fun e w'=>e = .returned (.string ⟨(Lib.itoa z).toArray⟩)∧Below w.heap.size w w':=by
 refine (Tryz.strconv_Itoa z (by omega) (by omega) w htab).mono ?_
 rintro e w' ⟨rfl,k,os,rfl⟩
 refine ⟨rfl,⟨rfl,rfl,rfl,?_,fun j hj=>?_⟩⟩
 ·show w.heap.size≤(w.heap++os).size
  simp
 ·show (w.heap++os)[j]? = w.heap[j]?
  exact Array.getElem?_append_left hj
theorem head_write (B b:Nat) (w:World) (h:Lib.IsBuilderF 211 5 B b (Lib.byteCells []) w) (hBw:B≤w.heap.size) :
  Calls Tryz.prog 130 #[.pointer (some ⟨b,0,none⟩),.string ⟨#[123,34,118,101,114,115,105,111,110,34,58,49,44,34,116,97,103,115,34,58,91]⟩] w fun e w'=>e = .returned (.tuple #[.int .i64 21,.nilIface])∧Lib.BuilderAtF 211 5 B b (.pointer (some ⟨b,0,none⟩)) (Lib.byteCells head1) w'∧Below B w w':=by
 refine (Tryz.Builder_WriteString_k B b _ _ w h (by simp [Lib.byteCells_length];decide) hBw).mono ?_
 rintro e w' ⟨he,h1,h2,_⟩
 exact ⟨he,h1,h2⟩
theorem print_core (v:Value) (l:List Tg) (w:World) (n:Nat) (hn:l.length=n) (h8:n≤8) (B:Nat) (hown:w.ownsRow B 193 34 v n (l.flatMap Tg.ecells))
  (hlen:∀ k,k<n→(l.getD k default).name.size≤20∧0≤(l.getD k default).size∧(l.getD k default).size≤300) (htab:Lib.TabIs Tryz.prog w "internal/strconv.uint64pow10" .u64 Lib.pow10Tab) :
  Calls Tryz.prog 84 #[v] w fun e w'=>e = .returned (.string ⟨(prTo l n ++ [93,125]).toArray⟩)∧Below w.heap.size w w':=by
 have HN:=hide hn
 have HO:=hide hown
 have HL:=hide hlen
 have HT:=hide htab
 clear hn hown hlen htab
 have hz71:=(zero_of_info Tryz.info71b).1
 have hb0:Lib.IsBuilderF 211 5 w.heap.size w.heap.size (Lib.byteCells []) (w.alloc (.cells #[.pointer none,.slice none 0 0] 211)):=Or.inl ⟨Nat.le_refl _,_,heap_alloc_new _ _,World.ownsRowF_nil _ _ _ _,by simp [Value.ownBlock]⟩
 have HB0:=hide hb0
 clear hb0
 go_enter Tryz.func84,Tryz.ntmps84
 go_wp2_with fail
 refine (head_write w.heap.size w.heap.size _ HB0.out (by rw [size_alloc];omega)).mono ?_
 rintro _ w1 ⟨rfl,hB1,hb1⟩
 dsimp only
 have HB1:Hid (Lib.IsBuilderF 211 5 w.heap.size w.heap.size (Lib.byteCells head1) w1):=Or.inr hB1
 have hbw:Below w.heap.size w w1:=((Below.refl _ _).alloc (Nat.le_refl _) _).trans hb1
 clear hB1 hb1
 have hv:∃ oa cap,v = .slice oa n cap:=by
  rcases HO.out.2 with ⟨rfl,rfl⟩|⟨g,cap,cur,rfl,_⟩
  ·exact ⟨none,0,rfl⟩
  ·exact ⟨_,cap,rfl⟩
 obtain ⟨oa,cap,rfl⟩:=hv
 go_wp2
 go_loopw [9] (fun i wr=>∃ k:Nat,k≤n∧i = .int .i64 ((k:Nat):Int)∧Lib.IsBuilderF 211 5 w.heap.size w.heap.size (Lib.byteCells (prTo l k)) wr∧Below w.heap.size w wr)
  (fun i _=>n - (intOf i).toNat)
 case atStart=>exact ⟨0,Nat.zero_le _,rfl,HB1.out,hbw⟩
 case round =>
  clear hbw
  obtain ⟨k,hk,rfl,hI,hbel⟩:=hrel
  have HI:=hide hI
  clear hI
  by_cases hlt:k<n
  ·have hbs:=hbel.size
   obtain ⟨g,rfl⟩ : ∃ g,oa=some ⟨g,0,none⟩:=by
    rcases HO.out.2 with ⟨e,h0⟩|⟨g,cap',cur,e,_⟩
    ·omega
    ·injection e with e1 _ _;exact ⟨g,e1⟩
   have hr:=rangeAt_later hbel (ecells_range HO.out k (by rw [HN.out];exact hlt))
   have hl3:=HL.out k hlt
   generalize hx:l.getD k default=tx at hr hl3
   have HX:=hide hx
   clear hx
   obtain ⟨n1,d1,z1⟩:=tx
   have hrd:Tg.ecells ⟨n1,d1,z1⟩=(ecellsOf n1 (rd d1) z1).toList:=rfl
   rw [hrd] at hr
   clear hrd
   generalize hd:rd d1=ds at hr
   have hdl:ds.length=32:=by rw [← hd];exact rd_len _
   have hdlt:∀ i,ds.getD i 0<256:=by rw [← hd];exact rd_lt _
   have HD:=hide hd
   clear hd
   have HR:=hide hr
   clear hr
   dsimp only at hl3
   obtain ⟨hn20,hz0,hz300⟩:=hl3
   have hpl:=prTo_len l k (fun j hj=>HL.out j (by omega))
   obtain ⟨c0,hc0⟩ : ∃ c0,c0=prTo l k++(if 0<k then [(44:UInt8)] else []):=⟨_,rfl⟩
   have hcl:c0.length≤22+136 * k:=by
    rw [hc0,List.length_append]
    have h4:(if 0<k then [(44:UInt8)] else []).length≤1:=by split<;>simp
    omega
   have HC0:=hide hc0
   clear hc0
   have hE0:Ent w (wr.alloc (.cells (ecellsOf n1 ds z1) 193)) wr.heap.size n1 ds z1:=⟨heap_alloc_new _ _,hbel.alloc hbs _⟩
   obtain ⟨dT,hdT⟩ : ∃ dT:ByteArray,dT=⟨(Sha.textTo ds 32).toArray⟩:=⟨_,rfl⟩
   have hdTs:dT.size=64:=by rw [hdT,bytes_size,Sha.textTo_len]
   have C18:∀ w,Calls Tryz.prog 66 #[.agg (cells8 ds)] w fun e w'=>e = .returned (.string dT)∧Below w.heap.size w w':=fun w=>by
    rw [hdT];exact text_any ds w hdl hdlt
   obtain ⟨zT,hzT⟩ : ∃ zT:ByteArray,zT=⟨(Lib.itoa z1).toArray⟩:=⟨_,rfl⟩
   have hzTs:zT.size≤21:=by rw [hzT,bytes_size];exact Lib.itoa_length_le z1 (by omega) (by omega)
   have C47:∀ w,Lib.TabIs Tryz.prog w "internal/strconv.uint64pow10" .u64 Lib.pow10Tab→Calls Tryz.prog 131 #[.int .i64 z1] w fun e w'=>e = .returned (.string zT)∧Below w.heap.size w w':=fun w ht=>by
    rw [hzT];exact itoa_any z1 hz0 hz300 w ht
   have q1:¬ 9223372036854775807<8+n1.size:=by omega
   have q2:¬ 9223372036854775807<8+n1.size+12:=by omega
   have q3:¬ 9223372036854775807<8+n1.size+12+64:=by omega
   have q4:¬ 9223372036854775807<8+n1.size+12+64+9:=by omega
   have q5:¬ 9223372036854775807<8+n1.size+12+64+9+zT.size:=by omega
   have q6:¬ 9223372036854775807<8+n1.size+12+64+9+zT.size+1:=by omega
   have HdT:=hide hdT
   have HzT:=hide hzT
   have H18:=hide C18
   have H47:=hide C47
   clear C18 C47 hdT hzT hdlt
   have i40:=i40len ds hdl
   have l40:(cells8 ds).toList.length=32:=by rw [Array.length_toList,cells8_size,hdl]
   have u40:=Tryz.underlying117
   have HE0:=hide hE0
   have hbb:w.heap.size<wr.heap.size:=by
    rcases HI.out with h|h
    ·exact h.lt
    ·exact h.lt
   by_cases hk0:0<k
   ·go_wp2_with (first|(refine wpList_load_mid rfl 193 _ rfl g (k * 34) rfl (ecellsOf n1 ds z1).toList _ HR.out Tryz.underlying193 rfl (by rw [Array.length_toList];exact size71 _ _ _ hdl) ?_)|(refine wpList_store_row rfl 193 _ _ rfl wr.heap.size _ rfl rfl 193 _ (heap_alloc_new _ _) (size71 _ _ _ hdl) (by rw [ecellsOf_size _ _ _ hdl,ecellsOf_size _ _ _ (Sha.zeros_len _)]) (Array.all_eq_true_iff_forall_mem.2 fun u hu=>ecellsOf_one _ _ _ u (by simpa using hu)) ?_;rw [World.setRow_alloc_new])|(go_at_call 130;refine (Tryz.Builder_WriteString_k w.heap.size w.heap.size _ _ _ (HI.out.alloc _) (by rw [Lib.byteCells_length];show _+1≤_;omega) (by rw [size_alloc];omega)).mono ?_;rintro _ w2 ⟨rfl,hB2,hb2,hk2⟩))
    have hE2:Ent w w2 wr.heap.size n1 ds z1:=HE0.out.kept hb2 hk2 (by omega)
    have HB2:Hid (Lib.IsBuilderF 211 5 w.heap.size w.heap.size (Lib.byteCells c0) w2):=by
     refine Or.inr ?_
     rw [HC0.out,if_pos hk0,Lib.byteCells_append]
     exact hB2
    clear hB2 hb2 hk2
    go_region_held3 (fun w'=>w'.cell? ⟨wr.heap.size,0,none⟩=some (.string n1)∧w'.rangeAt wr.heap.size 1 (cells8 ds).toList∧w'.cell? ⟨wr.heap.size,33,none⟩=some (.int .i64 z1))
     (first|exact (hE2.drew).out hdl|exact ((hE2.drew).later hT).out hdl|exact (((hE2.drew).later hT).later hZ).out hdl|exact ((((hE2.drew).later hT).later hZ).kept hW hK (by omega)).out hdl)
     (first|(go_at_call 66;refine (H18.out _).mono ?_;rintro _ w3 ⟨rfl,hT⟩)|(go_at_call 131;refine (H47.out _ (tab_later gPow (tab_lt gPow HT.out) HT.out ((hE2.drew).later hT).below)).mono ?_;rintro _ w4 ⟨rfl,hZ⟩)|(go_at_call 130;refine (Tryz.Builder_WriteString_k w.heap.size w.heap.size _ _ _ (builder_later (builder_later (w:=w2.drew) HB2.out hT) hZ) (by rw [Lib.byteCells_length];have:=big_size n1 dT zT hn20 hdTs hzTs;omega) (((hE2.drew).later hT).later hZ).below.size).mono ?_;rintro _ w5 ⟨rfl,hB5,hW,hK⟩))
    all_goals go_wp2
    all_goals
     go_roundw
     case rel =>
      refine ⟨k+1,by omega,by go_num,Or.inr ?_,(((hE2.drew).later hT).later hZ).below.trans hW⟩
      have e:=big_text n1 d1 dT zT z1 (by rw [HD.out];exact HdT.out) HzT.out
      rw [e,← Lib.byteCells_append] at hB5
      have e2:prTo l (k+1)=c0++eText ⟨n1,d1,z1⟩:=by rw [prTo,HX.out,HC0.out]
      rw [e2]
      exact hB5
     case measure=>simp [intOf];omega
   ·go_wp2_with (first|(refine wpList_load_mid rfl 193 _ rfl g (k * 34) rfl (ecellsOf n1 ds z1).toList _ HR.out Tryz.underlying193 rfl (by rw [Array.length_toList];exact size71 _ _ _ hdl) ?_)|(refine wpList_store_row rfl 193 _ _ rfl wr.heap.size _ rfl rfl 193 _ (heap_alloc_new _ _) (size71 _ _ _ hdl) (by rw [ecellsOf_size _ _ _ hdl,ecellsOf_size _ _ _ (Sha.zeros_len _)]) (Array.all_eq_true_iff_forall_mem.2 fun u hu=>ecellsOf_one _ _ _ u (by simpa using hu)) ?_;rw [World.setRow_alloc_new]))
    have hE2:=HE0.out
    have HB2:Hid (Lib.IsBuilderF 211 5 w.heap.size w.heap.size (Lib.byteCells c0) (wr.alloc (.cells (ecellsOf n1 ds z1) 193))):=by
     rw [HC0.out,if_neg hk0,List.append_nil]
     exact HI.out.alloc _
    clear HE0 hE0
    generalize wr.alloc (.cells (ecellsOf n1 ds z1) 193)=w2 at hE2 HB2 ⊢
    go_region_held3 (fun w'=>w'.cell? ⟨wr.heap.size,0,none⟩=some (.string n1)∧w'.rangeAt wr.heap.size 1 (cells8 ds).toList∧w'.cell? ⟨wr.heap.size,33,none⟩=some (.int .i64 z1))
     (first|exact (hE2.drew).out hdl|exact ((hE2.drew).later hT).out hdl|exact (((hE2.drew).later hT).later hZ).out hdl|exact ((((hE2.drew).later hT).later hZ).kept hW hK (by omega)).out hdl)
     (first|(go_at_call 66;refine (H18.out _).mono ?_;rintro _ w3 ⟨rfl,hT⟩)|(go_at_call 131;refine (H47.out _ (tab_later gPow (tab_lt gPow HT.out) HT.out ((hE2.drew).later hT).below)).mono ?_;rintro _ w4 ⟨rfl,hZ⟩)|(go_at_call 130;refine (Tryz.Builder_WriteString_k w.heap.size w.heap.size _ _ _ (builder_later (builder_later (w:=w2.drew) HB2.out hT) hZ) (by rw [Lib.byteCells_length];have:=big_size n1 dT zT hn20 hdTs hzTs;omega) (((hE2.drew).later hT).later hZ).below.size).mono ?_;rintro _ w5 ⟨rfl,hB5,hW,hK⟩))
    all_goals go_wp2
    all_goals
     go_roundw
     case rel =>
      refine ⟨k+1,by omega,by go_num,Or.inr ?_,(((hE2.drew).later hT).later hZ).below.trans hW⟩
      have e:=big_text n1 d1 dT zT z1 (by rw [HD.out];exact HdT.out) HzT.out
      rw [e,← Lib.byteCells_append] at hB5
      have e2:prTo l (k+1)=c0++eText ⟨n1,d1,z1⟩:=by rw [prTo,HX.out,HC0.out]
      rw [e2]
      exact hB5
     case measure=>simp [intOf];omega
  ·have hkn:k=n:=by omega
   subst hkn
   have hbs:=hbel.size
   go_wp2_with fail
   refine (Tryz.Builder_WriteString_k w.heap.size w.heap.size _ _ _ HI.out (by rw [Lib.byteCells_length];have:=prTo_len l k (fun j hj=>HL.out j hj);show _+2≤_;omega) hbs).mono ?_
   rintro _ w2 ⟨rfl,hB2,hb2,_⟩
   dsimp only
   have e:Lib.byteCells (prTo l k)++Lib.strCells ⟨#[93,125]⟩=Lib.byteCells (prTo l k ++ [93,125]):=by rw [Lib.byteCells_append];rfl
   rw [e] at hB2
   have HB2:Hid (Lib.IsBuilderF 211 5 w.heap.size w.heap.size (Lib.byteCells (prTo l k ++ [93,125])) w2):=Or.inr hB2
   have hbw2:=hbel.trans hb2
   clear hB2 hb2 e
   go_wp2_with fail
   refine (Tryz.Builder_String_any_k w.heap.size w.heap.size _ _ HB2.out hbw2.size).mono ?_
   rintro _ w3 ⟨rfl,_,hb3,_⟩
   dsimp only
   go_wp2
   go_ret
   exact ⟨rfl,hbw2.trans hb3⟩
end Go.Proofs.YtncigfibncmioaaGreatDoor
namespace Go.Proofs.YtncigfibncmioaaGreatDoor
open Go.RowKit
def dtx (ds:List Nat):ByteArray:=⟨(Sha.textTo ds 32).toArray⟩
theorem dtx_size (ds:List Nat):(dtx ds).size=64:=by unfold dtx;rw [bytes_size,Sha.textTo_len]
theorem hexd_ok (n:Nat) (h:n<16):hexB (Sha.hexd n).toNat=true:=by
 have:∀ n,n<16→hexB (Sha.hexd n).toNat=true:=by decide +kernel
 exact this n h
theorem hexd_inj {a b:Nat} (ha:a<16) (hb:b<16) (h:Sha.hexd a=Sha.hexd b):a=b:=by
 have:∀ a,a<16→∀ b,b<16→Sha.hexd a=Sha.hexd b→a=b:=by decide +kernel
 exact this a ha b hb h
theorem textTo_ok (bs:List Nat) (hlt:∀ i,bs.getD i 0<256) (k:Nat):∀ c∈Sha.textTo bs k,hexB c.toNat=true:=by
 induction k with
 | zero=>intro c hc;cases hc
 | succ k ih =>
  intro c hc
  have:=hlt k
  simp only [Sha.textTo,List.mem_append,List.mem_cons,List.not_mem_nil,or_false] at hc
  rcases hc with hc|rfl|rfl
  ·exact ih c hc
  ·exact hexd_ok _ (by omega)
  ·exact hexd_ok _ (by omega)
theorem textTo_inj {a b:List Nat} (ha:∀ i,a.getD i 0<256) (hb:∀ i,b.getD i 0<256):∀ k,Sha.textTo a k=Sha.textTo b k→∀ i,i<k→a.getD i 0=b.getD i 0
 | 0,_,i,hi=>absurd hi (by omega)
 | k+1,h,i,hi=>by
  simp only [Sha.textTo] at h
  have h1:=List.append_inj h (by rw [Sha.textTo_len,Sha.textTo_len])
  by_cases hk:i<k
  ·exact textTo_inj ha hb k h1.1 i hk
  ·have e:i=k:=by omega
   subst e
   have h2:=h1.2
   injection h2 with h2 h3
   injection h3 with h3
   have a1:=ha i
   have b1:=hb i
   have:=hexd_inj (by omega) (by omega) h2
   have:=hexd_inj (by omega) (by omega) h3
   omega
theorem dtx_dig (ds:List Nat) (hlt:∀ i,ds.getD i 0<256):isDigB (dtx ds)=true:=by
 unfold isDigB
 rw [dtx_size]
 simp only [decide_true,Bool.true_and,List.all_eq_true]
 intro c hc
 exact textTo_ok ds hlt 32 c (by simpa [dtx] using hc)
theorem rd_dtx (ds:List Nat) (h:ds.length=32) (hlt:∀ i,ds.getD i 0<256):rd (dtx ds)=ds:=by
 have h1:=rd_text (dtx_dig ds hlt)
 have h2:=textTo_inj (rd_lt (dtx ds)) hlt 32 (h1.trans rfl)
 apply List.ext_getElem
 ·rw [rd_len,h]
 ·intro i a b
  have:=h2 i (by omega)
  simpa [List.getD_eq_getElem?_getD,List.getElem?_eq_getElem a,List.getElem?_eq_getElem b] using this
end Go.Proofs.YtncigfibncmioaaGreatDoor
