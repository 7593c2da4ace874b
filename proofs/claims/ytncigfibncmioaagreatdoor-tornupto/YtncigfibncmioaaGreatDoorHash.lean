/-
  PROVED HERE: what the program's method Text answers for every digest: its 64 letters; nothing that was there has turned.
-/
import Derived.Test.YtncigfibncmioaaGreatDoorDig
import Derived.Deep.RegionLaw
set_option maxHeartbeats 1000000
set_option maxRecDepth 100000
namespace Go.Proofs.YtncigfibncmioaaGreatDoor
open Go.RowKit
theorem QvP (bs:List Nat) (k:Nat) (hlen:bs.length=32) (hk:k<32) (w:World):(Instr.index 117 (.agg (ah bs)) (.int .i64 ((k:Nat):Int))).run Tryz.prog w = .ok (.int .u8 ((bs.getD k 0:Nat):Int)) w:=by
 have hc:=Yc bs k (by omega);simp [Instr.index,asIntOf,run_underlying Tryz.underlying117,part,hc,go_sem];omega
theorem VL (w:World):(Instr.makeSlice 136 (.int .i64 0) (.int .i64 64)).run Tryz.prog w = .ok (.slice (some ⟨w.heap.size,0,none⟩) 0 64) (w.alloc (.cells (ah (Sha.zeros 64)) 5)):=by kernel_rfl
theorem Tryz.DK:(Tryz.prog.info? 5).map (fun i=>(i.zero,i.size,i.bytes))=some (some (.int .u8 0),1,1):=by kernel_rfl
def txt (bs:List Nat) (k:Nat):List Nat:=(Sha.aM bs k).map (fun c=>c.toNat)++Sha.zeros (64 - 2 * k)
theorem Qpt (bs:List Nat) (k:Nat) (hk:k<=32):(txt bs k).length=64:=by
 simp [txt,Sha.bq,Sha.af];omega
theorem Qu5 {w:World} {g:Nat} {ws:List Nat} {t:TypeId} (hv:w.heap[g]? = some (.cells (ah ws) t (0,0))) (o:Obj) (i:Nat) (hi:i<ws.length) :
  ((w.alloc o).drew.cell? ⟨g,i,none⟩).isSome=true/\(w.alloc o).drew.frozen? ⟨g,i,none⟩=false:=by
 have h:(w.alloc o).drew.heap[g]? = some (.cells (ah ws) t (0,0)):=(Below.heap_alloc w o g (eB hv)).trans hv;exact ⟨by rw [Fg h i hi];rfl,frozen_of_row _ _ _ _ _ h⟩
theorem Qts (w:World) (n m:Int) (t:TypeId):∀ (j:Nat) (u:Value),[Value.int .u8 n,Value.int .u8 m][j]? = some u->(w.alloc (.cells #[Value.int .u8 n,Value.int .u8 m] t)).drew.cell? ((⟨w.heap.size,0,none⟩ : Addr).add j)=some u:=by
 intro j u hj;have mz:(⟨w.heap.size,0,none⟩ : Addr).add j=⟨w.heap.size,j,none⟩:=by unfold Addr.add;split<;>simp_all
 rw [mz];have h:=cell_of_row (w.alloc (.cells #[Value.int .u8 n,Value.int .u8 m] t)).drew w.heap.size j _ t (0,0) (heap_alloc_new w _);rw [h];simpa using hj
theorem Qtt {w:World} {g:Nat} {ws:List Nat} {t:TypeId} (hv:w.heap[g]? = some (.cells (ah ws) t (0,0))) (i n m:Nat) :
  (w.setCells g i [.int .u8 ((n:Nat):Int),.int .u8 ((m:Nat):Int)]).heap[g]? = some (.cells (ah ((ws.set i n).set (i+1) m)) t (0,0)):=by
 exact Ff m (Ff n hv)
theorem Qtu {w:World} {g:Nat} {ws:List Nat} {t:TypeId} (hv:w.heap[g]? = some (.cells (ah ws) t (0,0))) (o:Obj) (i n m:Nat) :
  ((w.alloc o).drew.setCells g i [.int .u8 ((n:Nat):Int),.int .u8 ((m:Nat):Int)]).heap[g]? = some (.cells (ah ((ws.set i n).set (i+1) m)) t (0,0)) :=
 Qtt (w:=(w.alloc o).drew) ((Below.heap_alloc w o g (eB hv)).trans hv) i n m
theorem Qpu {B:Nat} {a w:World} (h:Below B a w) {g:Nat} (hg:B<=g) (i:Nat) (x y:Value):Below B a (w.setCells g i [x,y]) :=
 (h.setCell (p:=⟨g,i,none⟩) hg x).setCell (p:=⟨g,i+1,none⟩) hg y
theorem QrY (p:Nat) (hp:p<16) {h:p<(ByteArray.mk #[48,49,50,51,52,53,54,55,56,57,97,98,99,100,101,102]).size}:(ByteArray.mk #[48,49,50,51,52,53,54,55,56,57,97,98,99,100,101,102])[p]'h=Sha.dW p:=by
 rcases (show p=0∨p=1∨p=2∨p=3∨p=4∨p=5∨p=6∨p=7∨p=8∨p=9∨p=10∨p=11∨p=12∨p=13∨p=14∨p=15 by omega) with rfl|rfl|rfl|rfl|rfl|rfl|rfl|rfl|rfl|rfl|rfl|rfl|rfl|rfl|rfl|rfl<;>rfl
theorem Qrg (bs:List Nat) (k:Nat) (hk:k<32):txt bs (k+1)=((txt bs k).set (2 * k) (Sha.dW (bs.getD k 0 / 16)).toNat).set (2 * k+1) (Sha.dW (bs.getD k 0 % 16)).toNat:=by
 have hl:((Sha.aM bs k).map (fun c=>c.toNat)).length=2 * k:=by simp [Sha.bq]
 obtain ⟨r,hr⟩ : ∃ r,64 - 2 * k=r+2:=⟨62 - 2 * k,by omega⟩;have hr2:64 - 2 * (k+1)=r:=by omega
 unfold txt;rw [hr,hr2];generalize hm:(Sha.aM bs k).map (fun c=>c.toNat)=m at hl;have e:Sha.zeros (r+2)=0::0::Sha.zeros r:=by simp [Sha.zeros,List.replicate_succ]
 rw [e,List.set_append_right _ _ (by omega),List.set_append_right _ _ (by omega),hl,Nat.sub_self,show 2 * k+1 - 2 * k=1 by omega];simp [Sha.aM,hm]
theorem Qpv {w:World} {g:Nat} {t:TypeId} {bs:List Nat} (hv:w.heap[g]? = some (.cells (ah (txt bs 32)) t (0,0))) :
  ∀ j (hj:j<(Sha.aM bs 32).length),w.cell? ((⟨g,0,none⟩ : Addr).add j)=some (.int .u8 ((Sha.aM bs 32)[j].toNat:Int)):=by
 intro j hj;have mz:(⟨g,0,none⟩ : Addr).add j=⟨g,j,none⟩:=by unfold Addr.add;split<;>simp_all
 have hl:=Sha.bq bs 32;rw [mz,Fg hv j (by rw [Qpt bs 32 (by omega)];omega)];have e:(txt bs 32).getD j 0=(Sha.aM bs 32)[j].toNat:=by
  simp [txt,List.getD_eq_getElem?_getD,List.getElem?_append,hj]
 rw [e]
theorem Qtv (n m:Int):∀ u∈[Value.int .u8 n,Value.int .u8 m],u.oneCell'=true:=by simp [Value.oneCell']
theorem IU (bs:List Nat) (w:World) (hlen:bs.length=32) (hlt:∀ i,bs.getD i 0<256) :
  Calls Tryz.prog 66 #[.agg (ah bs)] w fun e w'=>e = .returned (.string ⟨(Sha.aM bs 32).toArray⟩)/\Below w.heap.size w w':=by
 have sR:=VL;obtain ⟨i0,hi,hz0,hz1,hz2⟩:=info_parts Tryz.DK;go_enter Tryz.func66,Tryz.ntmps66;go_wp2_with (refine wpList_load_row rfl 117 _ rfl w.heap.size rfl 117 _ _ _ (heap_alloc2_old _ _ _) Tryz.underlying117 rfl (by rw [aY,hlen];exact Ao) ?_)
 go_loopw [3,8] (fun v i wr=>∃ k:Nat,k<=32/\i = .int .i64 ((k:Nat):Int)/\v = .slice (some ⟨w.heap.size+1,0,none⟩) (2 * k) 64/\wr.heap[w.heap.size+1]? = some (.cells (ah (txt bs k)) 5 (0,0))/\Below w.heap.size w wr)
  (fun _ i _=>32 - (intOf i).toNat)
 case atStart=>exact ⟨0,by omega,rfl,rfl,heap_alloc2_new _ _ _,((Below.refl _ _).alloc (Nat.le_refl _) _).alloc (by simp) _⟩
 case round =>
  obtain ⟨k,hk,rfl,rfl,hv,hb⟩:=hrel
  by_cases hk2:k<32
  ·have sK:=fun w=>QvP bs k hlen hk2 w
   have hx2:=hlt k;generalize hx:bs.getD k 0=x at sK hx2;have HX:=aa hx;clear hx hlt sR;have hzb:=eB hv;obtain ⟨p,hp⟩ : ∃ p,p=x / 16:=⟨_,rfl⟩;obtain ⟨q,hq⟩ : ∃ q,q=x % 16:=⟨_,rfl⟩;have rp:(x:Int) / 16=(p:Int):=by omega
   have rq:bits .and .u8 (x:Int) 15=(q:Int):=by rw [show (15:Int)=((15:Nat):Int) from rfl,u8_and_nat _ _ (by omega) (by omega),nat_mask4,hq]
   have p1:(p:Int)<16:=by omega
   have q1:(q:Int)<16:=by omega
   have p2:p<16:=by omega
   have q2:q<16:=by omega
   have HP:=aa hp;have HQ:=aa hq;clear hp hq;have hsp:∀ (o:Obj) j,j<2->((wr.alloc o).drew.cell? ⟨w.heap.size+1,0+2 * k * 1+j,none⟩).isSome=true/\(wr.alloc o).drew.frozen? ⟨w.heap.size+1,0+2 * k * 1+j,none⟩=false:=fun o j hj=>Qu5 hv o _ (by rw [Qpt bs k hk];omega)
   have HS:=aa hsp;clear hsp;go_wp2
   go_region_law ((refine step_append_room rfl (.tmp 11) (.tmp 18) 136 rfl 5 i0 1 Tryz.underlying136 hi hz1 (w.heap.size+1) 0 (2 * k) 64 rfl ⟨wr.heap.size,0,none⟩ 2 2 [_,_] rfl rfl (Qts wr _ _ 5) (Qtv _ _) (by omega) (fun j hj=>HS.out _ j hj) ?_))
   all_goals
    go_wp2
    go_roundw
    case rel =>
     refine ⟨k+1,by omega,by go_num,by rw [Nat.mul_add],?_,?_⟩
     ·rw [QrY p p2,QrY q q2];refine (Qtu hv _ _ _ _).trans ?_;rw [Qrg bs k hk2,HX.out,<- HP.out,<- HQ.out]
     ·exact Qpu ((hb.alloc hb.size _).drew) (by omega) _ _ _
    case measure=>simp [intOf];omega
  ·have HK:Hid (k=32):=by show k=32;omega
   have hv2:wr.heap[w.heap.size+1]? = some (.cells (ah (txt bs 32)) 5 (0,0)):=by rw [<- HK.out];exact hv
   have hcv:(convert 136 9 (.slice (some ⟨w.heap.size+1,0,none⟩) (2 * k) 64)).run Tryz.prog wr = .ok (.string ⟨(Sha.aM bs 32).toArray⟩) wr:=by
    rw [show 2 * k=(Sha.aM bs 32).length by rw [Sha.bq,HK.out]];exact run_convert_bytes_back (P:=Tryz.prog) wr 136 9 5 ⟨w.heap.size+1,0,none⟩ 64 (Sha.aM bs 32) Tryz.underlying136 Tryz.underlying5 Tryz.underlying9 (Qpv hv2)
   clear sR;go_wp2;go_ret;exact ⟨rfl,hb⟩
open Go.RowKit
theorem Y4 (w:World) (n:Int) (t:TypeId):(w.alloc (.cells #[.int .u8 n] t)).cell? ⟨w.heap.size,0,none⟩=some (.int .u8 n):=by
 rw [cell_of_row _ _ 0 _ t _ (heap_alloc_new w _)];rfl
theorem Qp1 (w:World) (A:Obj) (n:Int) (t:TypeId):((w.alloc A).alloc (.cells #[.int .u8 n] t)).drew.cell? ⟨w.heap.size+1,0,none⟩=some (.int .u8 n):=by
 exact cell_of_row _ _ 0 #[.int .u8 n] t (0,0) (heap_alloc2_new w A _)
theorem Qua (w:World) (A B:Obj):w.heap.size<=((w.alloc A).alloc B).drew.heap.size:=by
 show _<=((w.alloc A).alloc B).heap.size;rw [Ri];omega
def Y5:Value->Nat|.slice _ n _=>n|_=>0
theorem Qsx (n j:Nat):((n:Int) * 8) / 2 ^ (8 * (7 - j)) % 256=(((UInt8.ofNat (n * 8 / 2 ^ (8 * (7 - j)) % 256)).toNat:Nat):Int):=by
 have:(UInt8.ofNat (n * 8 / 2 ^ (8 * (7 - j)) % 256)).toNat=n * 8 / 2 ^ (8 * (7 - j)) % 256:=by
  rw [UInt8.toNat_ofNat'];omega
 rw [this,Int.natCast_emod,Int.natCast_ediv,Int.natCast_mul,Int.natCast_pow];rfl
theorem fS.shape {w:World} {B:Nat} {v:Value} {l:List UInt8} (h:fS w B v l) (m:Nat) (hm:l.length=m):∃ g cap,v = .slice (some ⟨g,0,none⟩) m cap:=by
 obtain ⟨g,cap,hv,_⟩:=h;exact ⟨g,cap,by rw [hv,hm]⟩
theorem fS.text {w:World} {B:Nat} {v:Value} {l:List UInt8} (h:fS w B v l):(convert 136 9 v).run Tryz.prog w = .ok (.string ⟨l.toArray⟩) w:=by
 obtain ⟨g,cap,rfl,_,_,h1,_⟩:=h;refine run_convert_bytes_back (P:=Tryz.prog) w 136 9 5 ⟨g,0,none⟩ cap l Tryz.underlying136 Tryz.underlying5 Tryz.underlying9 (fun j hj=>?_);have mz:(⟨g,0,none⟩ : Addr).add j=⟨g,j,none⟩:=by unfold Addr.add;split<;>simp_all
 rw [mz];exact h1 j hj
theorem Qp2 (s:ByteArray) (n:Nat) (w:World) (hs:s.size<64) (hn:n<=140737488355328) :
  Calls Tryz.prog 113 #[.string s,.int .i64 ((n:Nat):Int)] w fun e w'=>e = .returned (.string ⟨(Sha.fill s.data.toList n).toArray⟩)/\Below w.heap.size w w':=by
 have hcv:=fun w s=>run_bytes_of_string (P:=Tryz.prog) w 9 136 5 s Tryz.underlying9 Tryz.underlying136 Tryz.underlying5
 obtain ⟨i0,hi,hz0,hz1,hz2⟩:=info_parts Tryz.DK;go_enter Tryz.func113,Tryz.ntmps113;go_wp2_with (at_builtin;refine R4 _ rfl (.tmp 9) (.tmp 10) 136 rfl i0 Tryz.underlying136 hi hz0 hz1 hz2 w.heap.size _ s.data.toList rfl (((fS.of_string w s _ w.heap.size (Nat.le_refl _)).alloc _).drew) (Qua _ _ _) ⟨w.heap.size+1,0,none⟩ 1 128 128 rfl (Qp1 _ _ _ _) rfl (by simp;omega) ?_;intro v1 w1 hown1 hb1);have lu:Below w.heap.size w w1:=(((Below.refl _ _).alloc (Nat.le_refl _) _).alloc (by simp) _).drew.trans hb1;clear hb1
 go_loopw [5] (fun v wr=>∃ k:Nat,k<=Sha.Ax s.size/\fS wr w.heap.size v (Sha.js s.data.toList k)/\Below w.heap.size w wr)
  (fun v _=>200 - Y5 v)
 case atStart=>exact ⟨0,Nat.zero_le _,hown1,lu⟩
 case round =>
  clear hown1 lu;obtain ⟨k,hk,hown,hb⟩:=hrel;have hlen:=Sha.gY s.data.toList k;have OL:s.data.toList.length=s.size:=by simp
  have aag:Sha.Ax s.size<64:=Nat.mod_lt _ (by omega);obtain ⟨m,hm⟩ : ∃ m,m=(Sha.js s.data.toList k).length:=⟨_,rfl⟩;obtain ⟨g,cap,hv⟩:=hown.shape m hm.symm;have j8:m=s.size+1+k:=by omega
  have hsz:=hb.size
  rename_i v _
  subst hv
  by_cases hlt:k<Sha.Ax s.size
  ·have ht:((m:Int) % 64 != 56)=true:=by
    have:(s.size+1+k) % 64≠56:=by unfold Sha.Ax at hlt hk;omega
    simp;omega
   have HM:=aa j8;clear hm hlen OL j8;have kM:m<200:=by have:=HM.out;omega
   clear hcv;go_wp2_with (at_builtin;refine R4 _ rfl (.tmp 16) (.tmp 17) 136 rfl i0 Tryz.underlying136 hi hz0 hz1 hz2 w.heap.size _ (Sha.js s.data.toList k) rfl (hown.alloc _) (by simp;omega) ⟨wr.heap.size,0,none⟩ 1 0 0 rfl (Y4 _ _ _) rfl (by rw [Sha.gY];simp;omega) ?_;intro v2 w2 hown2 hb2)
   go_roundw
   case rel=>exact ⟨k+1,by omega,hown2,(hb.alloc hsz _).trans hb2⟩
   case measure =>
    obtain ⟨g2,pk,hv2⟩:=hown2.shape (m+1) (by simp [Sha.gY];have:=HM.out;omega);rw [hv2];simp [Y5];omega
  ·have ht:((m:Int) % 64 != 56)=false:=by
    have:(s.size+1+k) % 64=56:=by unfold Sha.Ax at hlt hk;omega
    simp;omega
   have HK:Hid (k=Sha.Ax s.size):=by show k=_;omega
   obtain ⟨F,hF⟩ : ∃ F,F=Sha.js s.data.toList k:=⟨_,rfl⟩;rw [<- hF] at hown;have R5:F.length<128:=by rw [hF];omega
   have HF:=aa hF;clear hF hm hlen OL j8 hcv hlt hk;go_wp2
   go_loopw [5,22] (fun v i wr=>∃ j:Nat,j<=8/\i = .int .i64 ((j:Nat):Int)/\fS wr w.heap.size v (Sha.jt F (n * 8) j)/\Below w.heap.size w wr)
    (fun _ i _=>8 - (intOf i).toNat)
   case atStart=>exact ⟨0,Nat.zero_le _,rfl,hown,hb⟩
   case round =>
    clear hown hb hsz;obtain ⟨j,hj,rfl,hown,hb⟩:=hrel;have hlen:=Sha.oF F (n * 8) j;have hsz:=hb.size
    by_cases eN:j<8
    ·have hval:=Qsx n j;have ym:=aa hval;clear hval;go_wp2_with (at_builtin;refine R4 _ rfl (.tmp 25) (.tmp 32) 136 rfl i0 Tryz.underlying136 hi hz0 hz1 hz2 w.heap.size _ (Sha.jt F (n * 8) j) rfl (hown.alloc _) (by simp;omega) ⟨wr.heap.size,0,none⟩ 1 _ _ rfl (Y4 _ _ _) ym.out (by omega) ?_;intro v2 w2 hown2 hb2)
     go_roundw
     case rel=>exact ⟨j+1,by omega,by go_num,hown2,(hb.alloc hsz _).trans hb2⟩
     case measure=>simp [intOf];omega
    ·have HJ:Hid (j=8):=by show j=8;omega
     have hcb:=hown.text
     rename_i v _
     obtain ⟨g3,FC,hv3⟩:=hown.shape _ rfl;have HL:Hid (Sha.jt F (n * 8) j=Sha.fill s.data.toList n):=by
      show _=_;rw [HJ.out,HF.out,HK.out];unfold Sha.fill;rw [show s.data.toList.length=s.size by simp,Nat.mod_eq_of_lt (show n * 8<18446744073709551616 by omega)]
     generalize Sha.jt F (n * 8) j=L at *;subst hv3;clear hlen hown;go_wp2;go_ret;exact ⟨by rw [<- HL.out];rfl,hb⟩
open Go.RowKit
theorem Qkp (w:World) (g:Nat) (old D:List Nat) (ho:old.length=32) (hD:D.length=32) (hg:w.heap[g]? = some (.cells (ah old) 117 (0,0))) :
  (Instr.storeAt 117 (.pointer (some ⟨g,0,none⟩)) (.agg (ah D))).run Tryz.prog w = .ok () (w.setRow g (ah D)):=by
 simp only [Instr.storeAt,Instr.sureAddr,Sem.run_bind,Sem.run_pure,Result.andThen_ok];exact run_storeVar_row w g 117 117 _ _ hg (by rw [aY,hD];exact Ao) (by rw [aY,aY,ho,hD]) (dQ _)
theorem Y6 (w:World) (g:Nat) (old D:List Nat) (ho:old.length=32) (hD:D.length=32) (hg:w.heap[g]? = some (.cells (ah old) 117 (0,0))) :
  (storeVar 117 ⟨g,0,none⟩ (.agg (ah D))).run Tryz.prog w = .ok () (w.setRow g (ah D)) :=
 run_storeVar_row w g 117 117 _ _ hg (by rw [aY,hD];exact Ao) (by rw [aY,aY,ho,hD]) (dQ _)
theorem Qje (w:World) (g:Nat) (old D:List Nat) (ho:old.length=32) (hD:D.length=32) (hg:w.heap[g]? = some (.cells (ah old) 117 (0,0))) :
  (storeCells ⟨g,0,none⟩ (ah D).toList 0).run Tryz.prog w = .ok () (w.setRow g (ah D)):=by
 have:=Y6 w g old D ho hD hg
 cases hq:Tryz.prog.info? 117 with
 | none=>have:=Ao;simp [hq] at this
 | some i =>
  have hs:(ah D).size=i.size:=by have:=Ao;rw [aY,hD];simp [hq] at this;omega
  simpa [storeVar,sizeOf,typeInfo,hq,Value.cells,hs] using this
theorem QmA {w:World} {g k:Nat} (h:k≠g) (y0 y1 y2 y3 y4 y5 y6 y7:Value) :
  ((((((((w.setCell ⟨g,0,none⟩ y0).setCell ⟨g,1,none⟩ y1).setCell ⟨g,2,none⟩ y2).setCell ⟨g,3,none⟩ y3).setCell ⟨g,4,none⟩ y4).setCell ⟨g,5,none⟩ y5).setCell ⟨g,6,none⟩ y6).setCell ⟨g,7,none⟩ y7).heap[k]? = w.heap[k]?:=by
 rw [heap_setCell_other _ _ _ _ h,heap_setCell_other _ _ _ _ h,heap_setCell_other _ _ _ _ h,heap_setCell_other _ _ _ _ h,heap_setCell_other _ _ _ _ h,heap_setCell_other _ _ _ _ h,heap_setCell_other _ _ _ _ h,heap_setCell_other _ _ _ _ h]
theorem QmB {B:Nat} {a w:World} (h:Below B a w) {g:Nat} (hg:B<=g) (y0 y1 y2 y3 y4 y5 y6 y7:Value) :
  Below B a ((((((((w.setCell ⟨g,0,none⟩ y0).setCell ⟨g,1,none⟩ y1).setCell ⟨g,2,none⟩ y2).setCell ⟨g,3,none⟩ y3).setCell ⟨g,4,none⟩ y4).setCell ⟨g,5,none⟩ y5).setCell ⟨g,6,none⟩ y6).setCell ⟨g,7,none⟩ y7) :=
 (((((((h.setCell (by exact hg) _).setCell (by exact hg) _).setCell (by exact hg) _).setCell (by exact hg) _).setCell (by exact hg) _).setCell (by exact hg) _).setCell (by exact hg) _).setCell (by exact hg) _
theorem OM {B:Nat} {w W w1:World} {o0 o1:Obj} (h0:W.heap[B]? = some o0) (h1:W.heap[B+1]? = some o1) (hb:Below B w W) (hc:Below W.heap.size W w1) :
  w1.heap[B]? = some o0/\w1.heap[B+1]? = some o1/\Below B w w1:=by
 have l1:=eB h1;exact ⟨(hc.block _ (by omega)).trans h0,(hc.block _ (by omega)).trans h1,hb.trans (hc.mono (by omega))⟩
theorem QnM:(#[.int .u32 1779033703,.int .u32 3144134277,.int .u32 1013904242,.int .u32 2773480762,.int .u32 1359893119,.int .u32 2600822924,.int .u32 528734635,.int .u32 1541459225]:Array Value)=vals Sha.start:=rfl
theorem OO (b:ByteArray) (w:World) (hm:b.size<=140737488351232) (hK:ic w) :
  Calls Tryz.prog 71 #[.string b] w fun e w'=>e = .returned (.agg (ah (Sha.digest (Sha.state b.data.toList))))/\Below w.heap.size w w':=by
 have oy:=(zero_of_info Tryz.bY).1;have QZ:=(zero_of_info Tryz.oT).1;have N9:=hK.1;obtain ⟨wh,Y7⟩ : ∃ wh,wh=b.size / 64 * 64:=⟨_,rfl⟩;have rwh:(b.size:Int) / 64 * 64=(wh:Int):=by omega
 have hwl:wh<=b.size:=by omega
 have aah:b.size - wh<64:=by omega
 have R9:wh % 64=0:=by omega
 have FE:=aa Y7;clear Y7;obtain ⟨S1,hS1⟩ : ∃ S1,S1=Sha.jh Sha.start (b.data.toList.take wh) (b.size / 64):=⟨_,rfl⟩;have DL:S1.Ok:=by rw [hS1];exact Sha.p7 Sha.qz _ _
 obtain ⟨rest,uH⟩ : ∃ rest,rest=b.extract wh b.size:=⟨_,rfl⟩;have wW:rest.size<64:=by rw [uH];simp;omega
 obtain ⟨full,gw⟩ : ∃ full:List UInt8,full=Sha.fill rest.data.toList b.size:=⟨_,rfl⟩;have gZ:full.length % 64=0:=by rw [gw];exact Sha.yo _ _
 have Sa:full.length<200:=by
  rw [gw,Sha.qA];have h1:rest.data.toList.length=rest.size:=by simp
  have h2:Sha.Ax rest.data.toList.length<64:=Nat.mod_lt _ (by omega);omega
 obtain ⟨S2,ie⟩ : ∃ S2,S2=Sha.jh S1 full (full.length / 64):=⟨_,rfl⟩;have HST:Hid (S2=Sha.state b.data.toList):=by
  show S2=_;have e1:b.data.toList.length=b.size:=by simp
  have e2:rest.data.toList=b.data.toList.drop wh:=by
   rw [uH];simp;exact List.take_of_length_le (by simp)
  rw [ie,gw,hS1,e2];unfold Sha.state Sha.whole;rw [e1,<- FE.out]
 have pR:Hid (∀ W:World,ic W->Calls Tryz.prog 111 #[.agg #[.int .u32 1779033703,.int .u32 3144134277,.int .u32 1013904242,.int .u32 2773480762,.int .u32 1359893119,.int .u32 2600822924,.int .u32 528734635,.int .u32 1541459225],.string (b.extract 0 wh)] W fun e w'=>e = .returned (.agg (vals S1))/\Below W.heap.size W w'):=by
  intro W hW;have:=WW Sha.start (b.extract 0 wh) W Sha.qz (by simp [maxLen];omega) (by simp;omega) hW;have es:(b.extract 0 wh).size=wh:=by simp;omega
  have ed:(b.extract 0 wh).data.toList=b.data.toList.take wh:=by simp
  rw [es,ed,show wh / 64=b.size / 64 by have:=FE.out;omega,<- hS1] at this;rw [QnM];exact this
 have iM:Hid (∀ W:World,Calls Tryz.prog 113 #[.string (b.extract wh b.size),.int .i64 ((b.size:Nat):Int)] W fun e w'=>e = .returned (.string ⟨full.toArray⟩)/\Below W.heap.size W w'):=by
  intro W;rw [gw,<- uH];exact Qp2 rest b.size W wW (by omega)
 have Sb:Hid (∀ W:World,ic W->Calls Tryz.prog 111 #[.agg (vals S1),.string ⟨full.toArray⟩] W fun e w'=>e = .returned (.agg (vals S2))/\Below W.heap.size W w'):=by
  intro W hW;have es:(ByteArray.mk full.toArray).size=full.length:=by simp [ByteArray.size]
  have:=WW S1 ⟨full.toArray⟩ W DL (by rw [es];simp [maxLen];omega) (by rw [es];exact gZ) hW;rw [es,<- ie] at this;exact this
 have hD:(Sha.digest S2).length=32:=Sha.bm _ _;have HD:Hid (∀ W:World,Calls Tryz.prog 112 #[.agg (vals S2)] W fun e w'=>e = .returned (.agg (ah (Sha.digest S2)))/\Below W.heap.size W w'):=fun W=>Qmu S2 W
 obtain ⟨D,Sc⟩ : ∃ D,D=Sha.digest S2:=⟨_,rfl⟩;rw [<- Sc] at hD HD;have iB:Hid (D=Sha.digest (Sha.state b.data.toList)):=by show D=_;rw [Sc,HST.out]
 clear uH gw hS1 ie Sc gZ Sa wW DL;go_enter Tryz.func71,Tryz.ntmps71;go_wp2;have h0:((w.alloc (.cells (ah (Sha.zeros 32)) 117)).alloc (.cells #[.int .u32 1779033703,.int .u32 3144134277,.int .u32 1013904242,.int .u32 2773480762,.int .u32 1359893119,.int .u32 2600822924,.int .u32 528734635,.int .u32 1541459225] 186)).drew.heap[w.heap.size]? = some (.cells (ah (Sha.zeros 32)) 117 (0,0)):=heap_alloc2_old _ _ _;have h1:((w.alloc (.cells (ah (Sha.zeros 32)) 117)).alloc (.cells #[.int .u32 1779033703,.int .u32 3144134277,.int .u32 1013904242,.int .u32 2773480762,.int .u32 1359893119,.int .u32 2600822924,.int .u32 528734635,.int .u32 1541459225] 186)).drew.heap[w.heap.size+1]? = some (.cells #[.int .u32 1779033703,.int .u32 3144134277,.int .u32 1013904242,.int .u32 2773480762,.int .u32 1359893119,.int .u32 2600822924,.int .u32 528734635,.int .u32 1541459225] 186 (0,0)):=heap_alloc2_new _ _ _;have h2:Below w.heap.size w ((w.alloc (.cells (ah (Sha.zeros 32)) 117)).alloc (.cells #[.int .u32 1779033703,.int .u32 3144134277,.int .u32 1013904242,.int .u32 2773480762,.int .u32 1359893119,.int .u32 2600822924,.int .u32 528734635,.int .u32 1541459225] 186)).drew:=(((Below.refl _ _).alloc (Nat.le_refl _) _).alloc (by simp) _).drew;have h3:=hK.below h2 N9;have K0:=pR.out _ h3;have Y8:Hid (Calls Tryz.prog 111 #[.agg #[.int .u32 1779033703,.int .u32 3144134277,.int .u32 1013904242,.int .u32 2773480762,.int .u32 1359893119,.int .u32 2600822924,.int .u32 528734635,.int .u32 1541459225],.string (b.extract 0 wh)] ((w.alloc (.cells (ah (Sha.zeros 32)) 117)).alloc (.cells #[.int .u32 1779033703,.int .u32 3144134277,.int .u32 1013904242,.int .u32 2773480762,.int .u32 1359893119,.int .u32 2600822924,.int .u32 528734635,.int .u32 1541459225] 186)).drew fun e w1=>e = .returned (.agg (vals S1))/\w1.heap[w.heap.size]? = some (.cells (ah (Sha.zeros 32)) 117 (0,0))/\w1.heap[w.heap.size+1]? = some (.cells #[.int .u32 1779033703,.int .u32 3144134277,.int .u32 1013904242,.int .u32 2773480762,.int .u32 1359893119,.int .u32 2600822924,.int .u32 528734635,.int .u32 1541459225] 186 (0,0))/\Below w.heap.size w w1) :=
  K0.mono fun _ _ ⟨he,hc⟩=>⟨he,OM h0 h1 h2 hc⟩
 clear h0 h1 h2 h3 K0 pR
 go_region_with ((go_at_call 111;refine (Y8.out).mono ?_;rintro e w1 ⟨rfl,p0,p1,p2⟩;obtain ⟨d0,d1,d2,d3,d4,d5,d6,d7⟩:=E3 p1;have f0:=fun j=>frozen_of_row w1 (w.heap.size+1) j _ _ p1))
 have g0:(((((((((w1.setCell ⟨w.heap.size+1,0,none⟩ (.int .u32 ((S1.a:Nat):Int))).setCell ⟨w.heap.size+1,1,none⟩ (.int .u32 ((S1.b:Nat):Int))).setCell ⟨w.heap.size+1,2,none⟩ (.int .u32 ((S1.c:Nat):Int))).setCell ⟨w.heap.size+1,3,none⟩ (.int .u32 ((S1.d:Nat):Int))).setCell ⟨w.heap.size+1,4,none⟩ (.int .u32 ((S1.e:Nat):Int))).setCell ⟨w.heap.size+1,5,none⟩ (.int .u32 ((S1.f:Nat):Int))).setCell ⟨w.heap.size+1,6,none⟩ (.int .u32 ((S1.g:Nat):Int))).setCell ⟨w.heap.size+1,7,none⟩ (.int .u32 ((S1.h:Nat):Int)))).heap[w.heap.size]? = some (.cells (ah (Sha.zeros 32)) 117 (0,0)):=(QmA (by omega) _ _ _ _ _ _ _ _).trans p0;have g1:(((((((((w1.setCell ⟨w.heap.size+1,0,none⟩ (.int .u32 ((S1.a:Nat):Int))).setCell ⟨w.heap.size+1,1,none⟩ (.int .u32 ((S1.b:Nat):Int))).setCell ⟨w.heap.size+1,2,none⟩ (.int .u32 ((S1.c:Nat):Int))).setCell ⟨w.heap.size+1,3,none⟩ (.int .u32 ((S1.d:Nat):Int))).setCell ⟨w.heap.size+1,4,none⟩ (.int .u32 ((S1.e:Nat):Int))).setCell ⟨w.heap.size+1,5,none⟩ (.int .u32 ((S1.f:Nat):Int))).setCell ⟨w.heap.size+1,6,none⟩ (.int .u32 ((S1.g:Nat):Int))).setCell ⟨w.heap.size+1,7,none⟩ (.int .u32 ((S1.h:Nat):Int)))).heap[w.heap.size+1]? = some (.cells (vals S1) 186 (0,0)):=WU _ _ _ _ _ _ _ _ p1;have g2:Below w.heap.size w (((((((((w1.setCell ⟨w.heap.size+1,0,none⟩ (.int .u32 ((S1.a:Nat):Int))).setCell ⟨w.heap.size+1,1,none⟩ (.int .u32 ((S1.b:Nat):Int))).setCell ⟨w.heap.size+1,2,none⟩ (.int .u32 ((S1.c:Nat):Int))).setCell ⟨w.heap.size+1,3,none⟩ (.int .u32 ((S1.d:Nat):Int))).setCell ⟨w.heap.size+1,4,none⟩ (.int .u32 ((S1.e:Nat):Int))).setCell ⟨w.heap.size+1,5,none⟩ (.int .u32 ((S1.f:Nat):Int))).setCell ⟨w.heap.size+1,6,none⟩ (.int .u32 ((S1.g:Nat):Int))).setCell ⟨w.heap.size+1,7,none⟩ (.int .u32 ((S1.h:Nat):Int)))):=QmB p2 (by omega) _ _ _ _ _ _ _ _;generalize ((((((((w1.setCell ⟨w.heap.size+1,0,none⟩ (.int .u32 ((S1.a:Nat):Int))).setCell ⟨w.heap.size+1,1,none⟩ (.int .u32 ((S1.b:Nat):Int))).setCell ⟨w.heap.size+1,2,none⟩ (.int .u32 ((S1.c:Nat):Int))).setCell ⟨w.heap.size+1,3,none⟩ (.int .u32 ((S1.d:Nat):Int))).setCell ⟨w.heap.size+1,4,none⟩ (.int .u32 ((S1.e:Nat):Int))).setCell ⟨w.heap.size+1,5,none⟩ (.int .u32 ((S1.f:Nat):Int))).setCell ⟨w.heap.size+1,6,none⟩ (.int .u32 ((S1.g:Nat):Int))).setCell ⟨w.heap.size+1,7,none⟩ (.int .u32 ((S1.h:Nat):Int)))=W1 at g0 g1 g2 ⊢;clear p0 p1 p2 d0 d1 d2 d3 d4 d5 d6 d7 f0 Y8;obtain ⟨c0,c1,c2,c3,c4,c5,c6,c7⟩:=E3 g1;have k0:W1.drew.heap[w.heap.size]? = some (.cells (ah (Sha.zeros 32)) 117 (0,0)):=g0;have k1:W1.drew.heap[w.heap.size+1]? = some (.cells (vals S1) 186 (0,0)):=g1;have k2:Below w.heap.size w W1.drew:=g2.drew;go_wp2
 go_region_with (first
  | (go_at_call 113;refine (iM.out _).mono ?_;rintro e w2 ⟨rfl,hc2⟩;obtain ⟨a0,a1,a2⟩:=OM k0 k1 k2 hc2;obtain ⟨d0,d1,d2,d3,d4,d5,d6,d7⟩:=E3 a1;have hK2:=hK.below a2 N9)
  | (go_at_call 111;refine (Sb.out _ hK2).mono ?_;rintro e w3 ⟨rfl,hc3⟩;obtain ⟨b0,b1,b2⟩:=OM a0 a1 a2 hc3)
  | (go_at_call 112;refine (HD.out _).mono ?_;rintro e w4 ⟨rfl,rO⟩;obtain ⟨e0,e1,e2⟩:=OM b0 b1 b2 rO;have hst:=Qkp w4 w.heap.size _ D (Sha.af 32) hD e0;have E4:=Y6 w4 w.heap.size _ D (Sha.af 32) hD e0;have aai:=Qje w4 w.heap.size _ D (Sha.af 32) hD e0;have hDs:(ah D).size=32:=by rw [aY,hD]))
 all_goals
  go_wp2;rw [<- iB.out];exact bodyPost_ret (results_cell_row Tryz.results71 _ _ w.heap.size 117 _ (0,0) _ rfl (setRow_heap _ _ _ _ _ _ e0) Tryz.underlying117 rfl (by rw [aY,hD];exact Ao)) rfl ⟨rfl,e2.setRow (Nat.le_refl _) _⟩
theorem Qp4 (b:ByteArray) (w:World) (hm:b.size<=140737488351232) (hK:ic w) :
  Calls Tryz.prog 35 #[.string b] w fun e w'=>e = .returned (.string ⟨(Sha.hash b.data.toList).toArray⟩)/\Below w.heap.size w w':=by
 have HO:=aa (OO b w hm hK);obtain ⟨D,hD⟩ : ∃ D,D=Sha.digest (Sha.state b.data.toList):=⟨_,rfl⟩;have hl:D.length=32:=by rw [hD];exact Sha.bm _ _
 have hlt:∀ i,D.getD i 0<256:=by rw [hD];exact fun i=>Sha.jV _ _ i
 have HT:Hid (∀ w,Calls Tryz.prog 66 #[.agg (ah D)] w fun e w'=>e = .returned (.string ⟨(Sha.hash b.data.toList).toArray⟩)/\Below w.heap.size w w'):=by
  intro w;have:=IU D w hl hlt;rw [hD] at this ⊢;exact this
 rw [<- hD] at HO;clear hD hl hlt;go_enter Tryz.func35,Tryz.ntmps35;go_wp2_with (first|(go_at_call 71;refine (HO.out).mono ?_;rintro e w1 ⟨rfl,hb1⟩)|(go_at_call 66;refine (HT.out _).mono ?_;rintro e w2 ⟨rfl,hb2⟩));go_ret;exact ⟨rfl,hb1.trans (hb2.mono hb1.size)⟩
end Go.Proofs.YtncigfibncmioaaGreatDoor
