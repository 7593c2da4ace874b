/-
  PROVED HERE: what the program's function Print of package index answers for the entries of an index; nothing that was there has turned.
-/
import Derived.Test.YtncigfibncmioaaGreatDoorKCont
import Derived.Test.YtncigfibncmioaaGreatDoorShelfP
set_option maxHeartbeats 2000000
set_option maxRecDepth 100000
namespace Go.Proofs.YtncigfibncmioaaGreatDoor
open Go.RowKit
theorem Sw {w w':World} {B:Nat} {name:String} {g:Nat} {k:IntKind} {zs:List Int} (hg:Tryz.prog.globalNamed name=some g) (hB:g<B) (h:Lib.TabIs Tryz.prog w name k zs) (hb:Below B w w'):Lib.TabIs Tryz.prog w' name k zs:=by
 unfold Lib.TabIs World.var? at h ⊢;rw [hg] at h ⊢;simp only [Option.bind_some] at h ⊢;rw [hb.block g hB];exact h
theorem px:Tryz.prog.globalNamed "internal/strconv.uint64pow10" = some 3:=by kernel_rfl
theorem OY {w:World} {name:String} {g:Nat} {k:IntKind} {zs:List Int} (hg:Tryz.prog.globalNamed name=some g) (h:Lib.TabIs Tryz.prog w name k zs):g<w.heap.size:=by
 unfold Lib.TabIs World.var? at h;rw [hg] at h;simp only [Option.bind_some] at h
 cases hq:w.heap[g]? with
 | none=>rw [hq] at h;cases h
 | some o=>exact Jh hq
theorem Qlu (z:Int) (h0:0<=z) (h1:z<=300) (w:World) (kX:Lib.TabIs Tryz.prog w "internal/strconv.uint64pow10" .u64 Lib.pow10Tab) :
  Calls Tryz.prog 131 #[.int .i64 z] w fun e w'=>e = .returned (.string ⟨(Lib.itoa z).toArray⟩)/\Below w.heap.size w w':=by
 refine (Tryz.strconv_Itoa z (by omega) (by omega) w kX).mono ?_;rintro e w' ⟨rfl,k,os,rfl⟩;refine ⟨rfl,⟨rfl,rfl,rfl,?_,fun j hj=>?_⟩⟩
 ·show w.heap.size<=(w.heap++os).size;simp
 ·show (w.heap++os)[j]? = w.heap[j]?;exact Array.getElem?_append_left hj
theorem QmJ (B b:Nat) (w:World) (h:Lib.IsBuilderF 211 5 B b (Lib.byteCells []) w) (xd:B<=w.heap.size) :
  Calls Tryz.prog 130 #[.pointer (some ⟨b,0,none⟩),.string ⟨#[123,34,118,101,114,115,105,111,110,34,58,49,44,34,116,97,103,115,34,58,91]⟩] w fun e w'=>e = .returned (.tuple #[.int .i64 21,.nilIface])/\Lib.BuilderAtF 211 5 B b (.pointer (some ⟨b,0,none⟩)) (Lib.byteCells K1) w'/\Below B w w':=by
 refine (Tryz.Builder_WriteString_k B b _ _ w h (by simp [Lib.byteCells_length];decide) xd).mono ?_;rintro e w' ⟨he,h1,h2,_⟩;exact ⟨he,h1,h2⟩
theorem OX (v:Value) (l:List Tg) (w:World) (n:Nat) (hn:l.length=n) (h8:n<=8) (B:Nat) (hown:w.ownsRow B 193 34 v n (l.flatMap Tg.aP))
  (hlen:∀ k,k<n->(l.getD k default).name.size<=20/\0<=(l.getD k default).size/\(l.getD k default).size<=300) (kX:Lib.TabIs Tryz.prog w "internal/strconv.uint64pow10" .u64 Lib.pow10Tab) :
  Calls Tryz.prog 84 #[v] w fun e w'=>e = .returned (.string ⟨(dM l n ++ [93,125]).toArray⟩)/\Below w.heap.size w w':=by
 have HN:=aa hn;have HO:=aa hown;have HL:=aa hlen;have HT:=aa kX;clear hn hown hlen kX;have ji:=(zero_of_info Tryz.cY).1;have hb0:Lib.IsBuilderF 211 5 w.heap.size w.heap.size (Lib.byteCells []) (w.alloc (.cells #[.pointer none,.slice none 0 0] 211)):=Or.inl ⟨Nat.le_refl _,_,heap_alloc_new _ _,World.ownsRowF_nil _ _ _ _,by simp [Value.ownBlock]⟩;have ir:=aa hb0;clear hb0;go_enter Tryz.func84,Tryz.ntmps84;go_wp2_with fail;refine (QmJ w.heap.size w.heap.size _ ir.out (by rw [size_alloc];omega)).mono ?_;rintro _ w1 ⟨rfl,Be,hb1⟩;dsimp only;have br:Hid (Lib.IsBuilderF 211 5 w.heap.size w.heap.size (Lib.byteCells K1) w1):=Or.inr Be;have lu:Below w.heap.size w w1:=((Below.refl _ _).alloc (Nat.le_refl _) _).trans hb1;clear Be hb1;have hv:∃ oa cap,v = .slice oa n cap:=by
  rcases HO.out.2 with ⟨rfl,rfl⟩|⟨g,cap,cur,rfl,_⟩
  ·exact ⟨none,0,rfl⟩
  ·exact ⟨_,cap,rfl⟩
 obtain ⟨oa,cap,rfl⟩:=hv;go_wp2
 go_loopw [9] (fun i wr=>∃ k:Nat,k<=n/\i = .int .i64 ((k:Nat):Int)/\Lib.IsBuilderF 211 5 w.heap.size w.heap.size (Lib.byteCells (dM l k)) wr/\Below w.heap.size w wr)
  (fun i _=>n - (intOf i).toNat)
 case atStart=>exact ⟨0,Nat.zero_le _,rfl,br.out,lu⟩
 case round =>
  clear lu;obtain ⟨k,hk,rfl,hI,ik⟩:=hrel;have HI:=aa hI;clear hI
  by_cases hlt:k<n
  ·have kL:=ik.size;obtain ⟨g,rfl⟩ : ∃ g,oa=some ⟨g,0,none⟩:=by
    rcases HO.out.2 with ⟨e,h0⟩|⟨g,cap',cur,e,_⟩
    ·omega
    ·injection e with e1 _ _;exact ⟨g,e1⟩
   have hr:=rangeAt_later ik (QfL HO.out k (by rw [HN.out];exact hlt));have TD:=HL.out k hlt;generalize hx:l.getD k default=tx at hr TD;have HX:=aa hx;clear hx;obtain ⟨n1,d1,z1⟩:=tx;have eo:Tg.aP ⟨n1,d1,z1⟩=(aT n1 (rd d1) z1).toList:=rfl;rw [eo] at hr;clear eo;generalize hd:rd d1=ds at hr;have a8:ds.length=32:=by rw [<- hd];exact jm _
   have zu:∀ i,ds.getD i 0<256:=by rw [<- hd];exact sA _
   have HD:=aa hd;clear hd;have HR:=aa hr;clear hr;dsimp only at TD;obtain ⟨LS,hz0,kr⟩:=TD;have hpl:=TF l k (fun j hj=>HL.out j (by omega));obtain ⟨c0,hc0⟩ : ∃ c0,c0=dM l k++(if 0<k then [(44:UInt8)] else []):=⟨_,rfl⟩;have uO:c0.length<=22+136 * k:=by
    rw [hc0,List.length_append];have h4:(if 0<k then [(44:UInt8)] else []).length<=1:=by split<;>simp
    omega
   have qO:=aa hc0;clear hc0;have LU:nT w (wr.alloc (.cells (aT n1 ds z1) 193)) wr.heap.size n1 ds z1:=⟨heap_alloc_new _ _,ik.alloc kL _⟩;obtain ⟨dT,Ec⟩ : ∃ dT:ByteArray,dT=⟨(Sha.aM ds 32).toArray⟩:=⟨_,rfl⟩;have LV:dT.size=64:=by rw [Ec,sP,Sha.bq]
   have LW:∀ w,Calls Tryz.prog 66 #[.agg (ah ds)] w fun e w'=>e = .returned (.string dT)/\Below w.heap.size w w':=fun w=>by
    rw [Ec];exact IU ds w a8 zu
   obtain ⟨zT,Pd⟩ : ∃ zT:ByteArray,zT=⟨(Lib.itoa z1).toArray⟩:=⟨_,rfl⟩;have LX:zT.size<=21:=by rw [Pd,sP];exact Lib.itoa_length_le z1 (by omega) (by omega)
   have C47:∀ w,Lib.TabIs Tryz.prog w "internal/strconv.uint64pow10" .u64 Lib.pow10Tab->Calls Tryz.prog 131 #[.int .i64 z1] w fun e w'=>e = .returned (.string zT)/\Below w.heap.size w w':=fun w ht=>by
    rw [Pd];exact Qlu z1 hz0 kr w ht
   have q1:¬ 9223372036854775807<8+n1.size:=by omega
   have q2:¬ 9223372036854775807<8+n1.size+12:=by omega
   have q3:¬ 9223372036854775807<8+n1.size+12+64:=by omega
   have q4:¬ 9223372036854775807<8+n1.size+12+64+9:=by omega
   have q5:¬ 9223372036854775807<8+n1.size+12+64+9+zT.size:=by omega
   have q6:¬ 9223372036854775807<8+n1.size+12+64+9+zT.size+1:=by omega
   have Pe:=aa Ec;have HzT:=aa Pd;have Pf:=aa LW;have H47:=aa C47;clear LW C47 Ec Pd zu;have i40:=QrL ds a8;have l40:(ah ds).toList.length=32:=by rw [Array.length_toList,aY,a8]
   have u40:=Tryz.underlying117;have Jo:=aa LU;have nw:w.heap.size<wr.heap.size:=by
    rcases HI.out with h|h
    ·exact h.lt
    ·exact h.lt
   by_cases bu:0<k
   ·go_wp2_with (first|(refine wpList_load_mid rfl 193 _ rfl g (k * 34) rfl (aT n1 ds z1).toList _ HR.out Tryz.underlying193 rfl (by rw [Array.length_toList];exact gW _ _ _ a8) ?_)|(refine wpList_store_row rfl 193 _ _ rfl wr.heap.size _ rfl rfl 193 _ (heap_alloc_new _ _) (gW _ _ _ a8) (by rw [eh _ _ _ a8,eh _ _ _ (Sha.af _)]) (Array.all_eq_true_iff_forall_mem.2 fun u hu=>mj _ _ _ u (by simpa using hu)) ?_;rw [World.setRow_alloc_new])|(go_at_call 130;refine (Tryz.Builder_WriteString_k w.heap.size w.heap.size _ _ _ (HI.out.alloc _) (by rw [Lib.byteCells_length];show _+1<=_;omega) (by rw [size_alloc];omega)).mono ?_;rintro _ w2 ⟨rfl,km,hb2,hk2⟩));have mO:nT w w2 wr.heap.size n1 ds z1:=Jo.out.kept hb2 hk2 (by omega);have cL:Hid (Lib.IsBuilderF 211 5 w.heap.size w.heap.size (Lib.byteCells c0) w2):=by
     refine Or.inr ?_;rw [qO.out,if_pos bu,Lib.byteCells_append];exact km
    clear km hb2 hk2
    go_region_held3 (fun w'=>w'.cell? ⟨wr.heap.size,0,none⟩=some (.string n1)/\w'.rangeAt wr.heap.size 1 (ah ds).toList/\w'.cell? ⟨wr.heap.size,33,none⟩=some (.int .i64 z1))
     (first|exact (mO.drew).out a8|exact ((mO.drew).later hT).out a8|exact (((mO.drew).later hT).later hZ).out a8|exact ((((mO.drew).later hT).later hZ).kept hW hK (by omega)).out a8)
     (first|(go_at_call 66;refine (Pf.out _).mono ?_;rintro _ w3 ⟨rfl,hT⟩)|(go_at_call 131;refine (H47.out _ (Sw px (OY px HT.out) HT.out ((mO.drew).later hT).below)).mono ?_;rintro _ w4 ⟨rfl,hZ⟩)|(go_at_call 130;refine (Tryz.Builder_WriteString_k w.heap.size w.heap.size _ _ _ (LY (LY (w:=w2.drew) cL.out hT) hZ) (by rw [Lib.byteCells_length];have:=Qlv n1 dT zT LS LV LX;omega) (((mO.drew).later hT).later hZ).below.size).mono ?_;rintro _ w5 ⟨rfl,LZ,hW,hK⟩))
    all_goals go_wp2
    all_goals
     go_roundw
     case rel =>
      refine ⟨k+1,by omega,by go_num,Or.inr ?_,(((mO.drew).later hT).later hZ).below.trans hW⟩;have e:=Qlw n1 d1 dT zT z1 (by rw [HD.out];exact Pe.out) HzT.out;rw [e,<- Lib.byteCells_append] at LZ;have e2:dM l (k+1)=c0++uJ ⟨n1,d1,z1⟩:=by rw [dM,HX.out,qO.out]
      rw [e2];exact LZ
     case measure=>simp [intOf];omega
   ·go_wp2_with (first|(refine wpList_load_mid rfl 193 _ rfl g (k * 34) rfl (aT n1 ds z1).toList _ HR.out Tryz.underlying193 rfl (by rw [Array.length_toList];exact gW _ _ _ a8) ?_)|(refine wpList_store_row rfl 193 _ _ rfl wr.heap.size _ rfl rfl 193 _ (heap_alloc_new _ _) (gW _ _ _ a8) (by rw [eh _ _ _ a8,eh _ _ _ (Sha.af _)]) (Array.all_eq_true_iff_forall_mem.2 fun u hu=>mj _ _ _ u (by simpa using hu)) ?_;rw [World.setRow_alloc_new]));have mO:=Jo.out;have cL:Hid (Lib.IsBuilderF 211 5 w.heap.size w.heap.size (Lib.byteCells c0) (wr.alloc (.cells (aT n1 ds z1) 193))):=by
     rw [qO.out,if_neg bu,List.append_nil];exact HI.out.alloc _
    clear Jo LU;generalize wr.alloc (.cells (aT n1 ds z1) 193)=w2 at mO cL ⊢
    go_region_held3 (fun w'=>w'.cell? ⟨wr.heap.size,0,none⟩=some (.string n1)/\w'.rangeAt wr.heap.size 1 (ah ds).toList/\w'.cell? ⟨wr.heap.size,33,none⟩=some (.int .i64 z1))
     (first|exact (mO.drew).out a8|exact ((mO.drew).later hT).out a8|exact (((mO.drew).later hT).later hZ).out a8|exact ((((mO.drew).later hT).later hZ).kept hW hK (by omega)).out a8)
     (first|(go_at_call 66;refine (Pf.out _).mono ?_;rintro _ w3 ⟨rfl,hT⟩)|(go_at_call 131;refine (H47.out _ (Sw px (OY px HT.out) HT.out ((mO.drew).later hT).below)).mono ?_;rintro _ w4 ⟨rfl,hZ⟩)|(go_at_call 130;refine (Tryz.Builder_WriteString_k w.heap.size w.heap.size _ _ _ (LY (LY (w:=w2.drew) cL.out hT) hZ) (by rw [Lib.byteCells_length];have:=Qlv n1 dT zT LS LV LX;omega) (((mO.drew).later hT).later hZ).below.size).mono ?_;rintro _ w5 ⟨rfl,LZ,hW,hK⟩))
    all_goals go_wp2
    all_goals
     go_roundw
     case rel =>
      refine ⟨k+1,by omega,by go_num,Or.inr ?_,(((mO.drew).later hT).later hZ).below.trans hW⟩;have e:=Qlw n1 d1 dT zT z1 (by rw [HD.out];exact Pe.out) HzT.out;rw [e,<- Lib.byteCells_append] at LZ;have e2:dM l (k+1)=c0++uJ ⟨n1,d1,z1⟩:=by rw [dM,HX.out,qO.out]
      rw [e2];exact LZ
     case measure=>simp [intOf];omega
  ·have wO:k=n:=by omega
   subst wO;have kL:=ik.size;go_wp2_with fail;refine (Tryz.Builder_WriteString_k w.heap.size w.heap.size _ _ _ HI.out (by rw [Lib.byteCells_length];have:=TF l k (fun j hj=>HL.out j hj);show _+2<=_;omega) kL).mono ?_;rintro _ w2 ⟨rfl,km,hb2,_⟩;dsimp only;have e:Lib.byteCells (dM l k)++Lib.strCells ⟨#[93,125]⟩=Lib.byteCells (dM l k ++ [93,125]):=by rw [Lib.byteCells_append];rfl
   rw [e] at km;have cL:Hid (Lib.IsBuilderF 211 5 w.heap.size w.heap.size (Lib.byteCells (dM l k ++ [93,125])) w2):=Or.inr km;have L0:=ik.trans hb2;clear km hb2 e;go_wp2_with fail;refine (Tryz.Builder_String_any_k w.heap.size w.heap.size _ _ cL.out L0.size).mono ?_;rintro _ w3 ⟨rfl,_,hb3,_⟩;dsimp only;go_wp2;go_ret;exact ⟨rfl,L0.trans hb3⟩
end Go.Proofs.YtncigfibncmioaaGreatDoor
namespace Go.Proofs.YtncigfibncmioaaGreatDoor
open Go.RowKit
def fV (ds:List Nat):ByteArray:=⟨(Sha.aM ds 32).toArray⟩
theorem GZ (ds:List Nat):(fV ds).size=64:=by unfold fV;rw [sP,Sha.bq]
theorem Qpo (n:Nat) (h:n<16):im (Sha.dW n).toNat=true:=by
 have:∀ n,n<16->im (Sha.dW n).toNat=true:=by decide +kernel
 exact this n h
theorem Ql3 {a b:Nat} (ha:a<16) (hb:b<16) (h:Sha.dW a=Sha.dW b):a=b:=by
 have:∀ a,a<16->∀ b,b<16->Sha.dW a=Sha.dW b->a=b:=by decide +kernel
 exact this a ha b hb h
theorem Qpp (bs:List Nat) (hlt:∀ i,bs.getD i 0<256) (k:Nat):∀ c∈Sha.aM bs k,im c.toNat=true:=by
 induction k with
 | zero=>intro c hc;cases hc
 | succ k ih =>
  intro c hc;have:=hlt k;simp only [Sha.aM,List.mem_append,List.mem_cons,List.not_mem_nil,or_false] at hc
  rcases hc with hc|rfl|rfl
  ·exact ih c hc
  ·exact Qpo _ (by omega)
  ·exact Qpo _ (by omega)
theorem Uw {a b:List Nat} (ha:∀ i,a.getD i 0<256) (hb:∀ i,b.getD i 0<256):∀ k,Sha.aM a k=Sha.aM b k->∀ i,i<k->a.getD i 0=b.getD i 0
 | 0,_,i,hi=>absurd hi (by omega)
 | k+1,h,i,hi=>by
  simp only [Sha.aM] at h;have h1:=List.append_inj h (by rw [Sha.bq,Sha.bq])
  by_cases hk:i<k
  ·exact Uw ha hb k h1.1 i hk
  ·have e:i=k:=by omega
   subst e;have h2:=h1.2;injection h2 with h2 h3
   injection h3 with h3
   have a1:=ha i;have b1:=hb i;have:=Ql3 (by omega) (by omega) h2;have:=Ql3 (by omega) (by omega) h3;omega
theorem Pp (ds:List Nat) (hlt:∀ i,ds.getD i 0<256):fE (fV ds)=true:=by
 unfold fE;rw [GZ];simp only [decide_true,Bool.true_and,List.all_eq_true];intro c hc;exact Qpp ds hlt 32 c (by simpa [fV] using hc)
theorem Eg (ds:List Nat) (h:ds.length=32) (hlt:∀ i,ds.getD i 0<256):rd (fV ds)=ds:=by
 have h1:=Zb (Pp ds hlt);have h2:=Uw (sA (fV ds)) hlt 32 (h1.trans rfl);apply List.ext_getElem
 ·rw [jm,h]
 ·intro i a b;have:=h2 i (by omega);simpa [List.getD_eq_getElem?_getD,List.getElem?_eq_getElem a,List.getElem?_eq_getElem b] using this
end Go.Proofs.YtncigfibncmioaaGreatDoor
namespace Go.Proofs.YtncigfibncmioaaGreatDoor
open Go.RowKit
def FX (l:List Tg):ByteArray:=if xT l then ⟨(dM l l.length ++ [93,125]).toArray⟩ else ⟨#[]⟩
def sX (l:List Tg):Int:=if xT l then 0 else 5
theorem QmD {l:List Tg} (h:xT l=true):l.length<=8/\∀ k,k<l.length->(l.getD k default).name.size<=20/\0<=(l.getD k default).size/\(l.getD k default).size<=300:=by
 unfold xT at h;simp only [Bool.and_eq_true,decide_eq_true_iff] at h;refine ⟨h.1,fun k hk=>?_⟩;have:=h.2 k hk;unfold uz at this;simp only [Bool.and_eq_true,decide_eq_true_iff] at this;refine ⟨?_,this.2.2.2.1,this.2.2.2.2⟩;have h2:=this.2.1;unfold eP at h2;simp only [Bool.and_eq_true,decide_eq_true_iff] at h2;exact h2.1.1.2
theorem Qjh (oa:Option Addr) (ca:Nat) (l:List Tg) (w:World) (ha:TagsAt w oa l) (hsz:∀ i,(l.getD i default).name.size<=9223372036854775807) (kX:Lib.TabIs Tryz.prog w "internal/strconv.uint64pow10" .u64 Lib.pow10Tab) :
  Calls Tryz.prog 45 #[.slice oa l.length ca] w fun e w'=>e = .returned (.tuple #[.string (FX l),.int .i64 (sX l)])/\Below w.heap.size w w':=by
 have HC:=aa (Qno oa ca l w ha hsz);have HT:=aa kX;clear ha hsz kX;generalize hn:l.length=n at HC;have HN:=aa hn;clear hn;go_enter Tryz.func45,Tryz.ntmps45;go_wp2_with fail;refine HC.out.mono ?_;rintro e w1 ⟨hb1,h⟩
 rcases h with ⟨hi,v,rfl,hown⟩|⟨hi,rfl⟩
 ·dsimp only;obtain ⟨h8,hl⟩:=QmD hi;have hp:=OX v l w1 n HN.out (by rw [<- HN.out];exact h8) w.heap.size hown (by rw [HN.out] at hl;exact hl) (Sw px (OY px HT.out) HT.out hb1);have HP:=aa hp;have e1:FX l=⟨(dM l n ++ [93,125]).toArray⟩:=by unfold FX;rw [hi,HN.out];rfl
  have e2:sX l=0:=by unfold sX;rw [hi];rfl
  have Lf:=aa (And.intro e1 e2);clear hp e1 e2 hown hl h8;go_wp2_with (go_at_call 84;refine HP.out.mono ?_;rintro _ w2 ⟨rfl,hb2⟩)
  (try simp only [Exit.inBlock,Exit.then])
  refine bodyPost_ret (results_tmp2 rfl _ _ _) rfl ?_;refine ⟨?_,hb1.trans (hb2.mono hb1.size)⟩;rw [Lf.out.1,Lf.out.2];rfl
 ·dsimp only;have e1:FX l=⟨#[]⟩:=by unfold FX;rw [hi];rfl
  have e2:sX l=5:=by unfold sX;rw [hi];rfl
  have Lf:=aa (And.intro e1 e2);clear e1 e2;go_wp2
  (try simp only [Exit.inBlock,Exit.then])
  refine bodyPost_ret (results_tmp2 rfl _ _ _) rfl ?_;refine ⟨?_,hb1⟩;rw [Lf.out.1,Lf.out.2];rfl
end Go.Proofs.YtncigfibncmioaaGreatDoor
