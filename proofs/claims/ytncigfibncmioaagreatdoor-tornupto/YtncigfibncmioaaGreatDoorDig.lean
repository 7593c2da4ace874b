/-
  PROVED HERE: small facts on rows of entries (a tag's name, its digest, its size), and what the law's own function sameT answers for all lists of entries: nothing turns.
-/
import Derived.Test.YtncigfibncmioaaGreatDoorOwnB
import Derived.Deep.RegionHeld3
import Derived.Test.YtncigfibncmioaaGreatDoorTurn
set_option maxHeartbeats 1000000
set_option maxRecDepth 100000
namespace Go.Proofs.YtncigfibncmioaaGreatDoor
open Go.RowKit
structure Tg where
 name:ByteArray
 dig:ByteArray
 size:Int
 deriving DecidableEq
instance:Inhabited Tg:=⟨⟨⟨#[]⟩,⟨#[]⟩,0⟩⟩
def Tg.cells (t:Tg):List Value:=[.string t.name,.string t.dig,.int .i64 t.size]
def TagsAt (w:World) (oa:Option Addr) (l:List Tg):Prop :=
 ∀ i,i<l.length->∃ b o,oa=some ⟨b,o,none⟩/\w.rangeAt b (o+i * 3) (l.getD i default).cells
theorem rangeAt_later {w w':World} {b o:Nat} {cs:List Value} (hb:Below w.heap.size w w') (h:w.rangeAt b o cs):w'.rangeAt b o cs:=fun j v hj=>cell_later hb (h j v hj)
theorem Below.drewN {B:Nat} {w w':World} (h:Below B w w') (n:Nat):Below B w (w'.drewN n):=⟨h.os,h.tape,h.output,h.size,h.block⟩
theorem toList_inj (a b:ByteArray):a.toList=b.toList ↔ a=b:=by
 rw [ByteArray.toList_eq,ByteArray.toList_eq];obtain ⟨⟨x⟩⟩:=a;obtain ⟨⟨y⟩⟩:=b;simp
theorem Tryz.bY:(Tryz.prog.info? 117).map (fun i=>(i.zero,i.size))=some (some (.agg (ah (Sha.zeros 32))),32):=by kernel_rfl
theorem Ao:(Tryz.prog.info? 117).map (·.size)=some 32:=by kernel_rfl
theorem Yh (w:World) (A B C:Obj):(((w.alloc A).alloc B).alloc C).heap[w.heap.size+1]? = some B/\(((w.alloc A).alloc B).alloc C).heap[w.heap.size+2]? = some C:=by
 have s2:=Ri w A B;refine ⟨(Below.heap_alloc ((w.alloc A).alloc B) C (w.heap.size+1) (by omega)).trans (heap_alloc2_new _ _ _),?_⟩;have:=heap_alloc_new ((w.alloc A).alloc B) C;rwa [s2] at this
end Go.Proofs.YtncigfibncmioaaGreatDoor
namespace Go.Proofs.YtncigfibncmioaaGreatDoor
open Go.RowKit
theorem Tryz.ur:(Tryz.prog.info? 293).map (fun i=>(i.zero,i.size))=some (some (.agg (kE (Sha.zeros 64))),64):=by kernel_rfl
theorem QrB (s:ByteArray) (k:Nat) (t:ByteArray) (hs:s.size=64) (hk:k<16) (hq:s.extract (4 * k) (4 * k+4)=t) {h0:0<t.size} {h1:1<t.size} {h2:2<t.size} {h3:3<t.size} :
  bits BinOp.or IntKind.u32 (bits BinOp.or IntKind.u32 (bits BinOp.or IntKind.u32 (((t[0]'h0).toNat:Int) % 4294967296 * 16777216 % 4294967296) (((t[1]'h1).toNat:Int) % 4294967296 * 65536 % 4294967296)) (((t[2]'h2).toNat:Int) % 4294967296 * 256 % 4294967296)) (((t[3]'h3).toNat:Int) % 4294967296)
   = ((Sha.zH s.data.toList k:Nat):Int):=by
 have at_:∀ i (h:i<t.size),i<4->(t[i]'h).toNat=Sha.bj s.data.toList (4 * k+i):=by
  subst hq;intro i h hi;have hlt:4 * k+i<s.data.size:=by have:s.data.size=64:=hs;omega
  have e:(s.extract (4 * k) (4 * k+4))[i]'h=s.data[4 * k+i]:=by
   simp [ByteArray.getElem_extract];rfl
  rw [e];have hg:s.data[4 * k+i]? = some s.data[4 * k+i]:=Array.getElem?_eq_getElem hlt;simp [Sha.bj,hg]
 have b:∀ i,Sha.bj s.data.toList i<256:=fun i=>UInt8.toNat_lt _
 rw [at_ 0 h0 (by omega),at_ 1 h1 (by omega),at_ 2 h2 (by omega),at_ 3 h3 (by omega)];have b0:=b (4 * k+0);have b1:=b (4 * k+1);have b2:=b (4 * k+2);have b3:=b (4 * k+3);rw [show ((Sha.bj s.data.toList (4 * k+0):Nat):Int) % 4294967296 * 16777216 % 4294967296=((Sha.bj s.data.toList (4 * k) * 16777216:Nat):Int) by rw [Nat.add_zero] at *;omega,
  show ((Sha.bj s.data.toList (4 * k+1):Nat):Int) % 4294967296 * 65536 % 4294967296=((Sha.bj s.data.toList (4 * k+1) * 65536:Nat):Int) by omega,
  show ((Sha.bj s.data.toList (4 * k+2):Nat):Int) % 4294967296 * 256 % 4294967296=((Sha.bj s.data.toList (4 * k+2) * 256:Nat):Int) by omega,
  show ((Sha.bj s.data.toList (4 * k+3):Nat):Int) % 4294967296=((Sha.bj s.data.toList (4 * k+3):Nat):Int) by omega]
 rw [Nat.add_zero] at b0;have o1:Sha.bj s.data.toList (4 * k) * 16777216 ||| Sha.bj s.data.toList (4 * k+1) * 65536<4294967296:=by
  have:=Nat.or_lt_two_pow (n:=32) (x:=Sha.bj s.data.toList (4 * k) * 16777216) (y:=Sha.bj s.data.toList (4 * k+1) * 65536) (by omega) (by omega);omega
 have o2:(Sha.bj s.data.toList (4 * k) * 16777216 ||| Sha.bj s.data.toList (4 * k+1) * 65536) ||| Sha.bj s.data.toList (4 * k+2) * 256<4294967296:=by
  have:=Nat.or_lt_two_pow (n:=32) (x:=Sha.bj s.data.toList (4 * k) * 16777216 ||| Sha.bj s.data.toList (4 * k+1) * 65536) (y:=Sha.bj s.data.toList (4 * k+2) * 256) (by omega) (by omega);omega
 rw [u32_or_nat _ _ (by omega) (by omega),u32_or_nat _ _ o1 (by omega),u32_or_nat _ _ o2 (by omega)];rfl
theorem QpM (bs:List UInt8) (j:Nat) (hj:16<=j):Sha.fB bs (j+1 - 16)=(Sha.fB bs (j - 16)).set j (Sha.uZ (Sha.fB bs (j - 16)) j):=by
 obtain ⟨m,rfl⟩ : ∃ m,j=m+16:=⟨j - 16,by omega⟩;rw [show m+16+1 - 16=m+1 by omega,show m+16 - 16=m by omega];rfl
theorem QpN (bs:List UInt8) (j:Nat) (a2 a7 E2 IL:Nat) (h2:a2=(Sha.fB bs (j - 16)).getD (j - 2) 0) (h7:a7=(Sha.fB bs (j - 16)).getD (j - 7) 0) (h15:E2=(Sha.fB bs (j - 16)).getD (j - 15) 0) (h16:IL=(Sha.fB bs (j - 16)).getD (j - 16) 0) :
  (((((Sha.JF a2 17 19 10:Nat):Int)+(a7:Int)) % 4294967296+((Sha.JF E2 7 18 3:Nat):Int)) % 4294967296+(IL:Int)) % 4294967296=((Sha.uZ (Sha.fB bs (j - 16)) j:Nat):Int):=by
 unfold Sha.uZ;rw [<- h2,<- h7,<- h15,<- h16];omega
theorem QpO (s:ByteArray) (w:World) (hs:s.size=64) :
  Calls Tryz.prog 211 #[.string s] w fun e w'=>e = .returned (.agg (kE (Sha.words s.data.toList)))/\Below w.heap.size w w':=by
 have hz:=(zero_of_info Tryz.ur).1;go_enter Tryz.func211,Tryz.ntmps211;go_wp2
 go_loopw [7] (fun i wr=>∃ k:Nat,k<=16/\i = .int .i64 k/\wr.heap[w.heap.size]? = some (.cells (kE (Sha.zeros 64)) 293 (0,0))/\wr.heap[w.heap.size+1]? = some (.cells (kE (Sha.q9 s.data.toList k)) 293 (0,0))/\Below w.heap.size w wr)
  (fun i _=>16 - (intOf i).toNat)
 case atStart=>exact ⟨0,Nat.zero_le _,rfl,heap_alloc2_old _ _ _,heap_alloc2_new _ _ _,((Below.refl _ _).alloc (Nat.le_refl _) _).alloc (by simp) _⟩
 case round =>
  obtain ⟨k,hk,rfl,hr,hv,hb⟩:=hrel
  by_cases hlt:k<16
  ·have hc:=Bg hv k (by rw [Sha.ra];omega);have hf:=frozen_of_row _ _ k _ _ hv;have hz:=hb.size;go_wp2;generalize hq:s.extract (4 * k) (4 * k+4)=t;have ht:t.size=4:=by rw [<- hq];simp;omega
   have HQ:=aa hq;clear hq
   go_region
   go_wp2
   go_roundw
   case rel=>exact ⟨k+1,by omega,by go_num,(heap_setCell_other _ _ _ _ (by simp)).trans hr,by rw [QrB s k t hs hlt HQ.out];exact Q6 _ hv,(hb.setCell (by simp) _).drew⟩
   case measure=>simp [intOf];omega
  ·have HK:Hid (k=16):=by show k=16;omega
   have hv0:wr.heap[w.heap.size+1]? = some (.cells (kE (Sha.fB s.data.toList (16 - 16))) 293 (0,0)):=by rw [hv,HK.out];rfl
   go_wp2
   go_loopw [6] (fun i wr=>∃ j:Nat,16<=j/\j<=64/\i = .int .i64 j/\wr.heap[w.heap.size]? = some (.cells (kE (Sha.zeros 64)) 293 (0,0))/\wr.heap[w.heap.size+1]? = some (.cells (kE (Sha.fB s.data.toList (j - 16))) 293 (0,0))/\Below w.heap.size w wr)
    (fun i _=>64 - (intOf i).toNat)
   case atStart=>exact ⟨16,by omega,by omega,rfl,hr,hv0,hb⟩
   case round =>
    clear hr hv hv0 hb hlt hk HK;obtain ⟨j,hj,pY,rfl,hr,hv,hb⟩:=hrel
    by_cases hlt:j<64
    ·obtain ⟨a2,ha2⟩ : ∃ a2,a2=(Sha.fB s.data.toList (j - 16)).getD (j - 2) 0:=⟨_,rfl⟩;obtain ⟨a7,WN⟩ : ∃ a7,a7=(Sha.fB s.data.toList (j - 16)).getD (j - 7) 0:=⟨_,rfl⟩;obtain ⟨E2,Di⟩ : ∃ E2,E2=(Sha.fB s.data.toList (j - 16)).getD (j - 15) 0:=⟨_,rfl⟩;obtain ⟨IL,IM⟩ : ∃ IL,IL=(Sha.fB s.data.toList (j - 16)).getD (j - 16) 0:=⟨_,rfl⟩;obtain ⟨aj,haj⟩ : ∃ aj,aj=(Sha.fB s.data.toList (j - 16)).getD j 0:=⟨_,rfl⟩;have hc2:=Bg hv (j - 2) (by rw [Sha.cV];omega);have KE:=Bg hv (j - 7) (by rw [Sha.cV];omega);have WO:=Bg hv (j - 15) (by rw [Sha.cV];omega);have WQ:=Bg hv (j - 16) (by rw [Sha.cV];omega);have P8:=Bg hv j (by rw [Sha.cV];omega);rw [<- ha2] at hc2;rw [<- WN] at KE;rw [<- Di] at WO;rw [<- IM] at WQ;rw [<- haj] at P8;have hf:=frozen_of_row _ _ j _ _ hv;have hz:=hb.size;have hl2:a2<4294967296:=by rw [ha2];exact Sha.vd _ _ _
     have aaG:E2<4294967296:=by rw [Di];exact Sha.vd _ _ _
     have Ha2:=aa ha2;have Ha7:=aa WN;have WR:=aa Di;have WS:=aa IM;clear ha2 WN Di IM haj;have g2:(2:Int)<=(j:Int):=by omega
     have e2:¬ j - 2=j:=by omega
     have d2:¬ j=j - 2:=by omega
     have g7:(7:Int)<=(j:Int):=by omega
     have e7:¬ j - 7=j:=by omega
     have d7:¬ j=j - 7:=by omega
     have g15:(15:Int)<=(j:Int):=by omega
     have e15:¬ j - 15=j:=by omega
     have d15:¬ j=j - 15:=by omega
     have g16:(16:Int)<=(j:Int):=by omega
     have e16:¬ j - 16=j:=by omega
     have d16:¬ j=j - 16:=by omega
     have k2:(j:Int) - 2<64:=by omega
     have k7:(j:Int) - 7<64:=by omega
     have k15:(j:Int) - 15<64:=by omega
     have k16:(j:Int) - 16<64:=by omega
     have kj:(j:Int)<64:=by omega
     have q2:IntKind.i64.wrap ((j:Int) - 2)=(j:Int) - 2:=by rw [IntKind.wrap_i64];omega
     have q7:IntKind.i64.wrap ((j:Int) - 7)=(j:Int) - 7:=by rw [IntKind.wrap_i64];omega
     have q15:IntKind.i64.wrap ((j:Int) - 15)=(j:Int) - 15:=by rw [IntKind.wrap_i64];omega
     have q16:IntKind.i64.wrap ((j:Int) - 16)=(j:Int) - 16:=by rw [IntKind.wrap_i64];omega
     have n2:((j:Int) - 2).toNat=j - 2:=by omega
     have n7:((j:Int) - 7).toNat=j - 7:=by omega
     have n15:((j:Int) - 15).toNat=j - 15:=by omega
     have n16:((j:Int) - 16).toNat=j - 16:=by omega
     go_wp2
     go_region_held3 (fun w'=>w'.cell? ⟨w.heap.size+1,j - 2,none⟩=some (.int .u32 ((a2:Nat):Int))/\w'.cell? ⟨w.heap.size+1,j - 7,none⟩=some (.int .u32 ((a7:Nat):Int))/\w'.cell? ⟨w.heap.size+1,j - 15,none⟩=some (.int .u32 ((E2:Nat):Int))/\w'.cell? ⟨w.heap.size+1,j - 16,none⟩=some (.int .u32 ((IL:Nat):Int))) (first|go_keep|(refine ⟨?_,?_,?_,?_⟩<;>(rw [Rh _ _ _ _ _ (by assumption)];go_keep)))
      (((go_at_call 243;refine (Qlb _ _ _ _ _ (by omega) (by omega) (by omega) (by omega) (by omega) (by omega) (by omega)).mono ?_;rintro e w' ⟨rfl,n,rfl⟩)))
     go_wp2
     go_roundw
     case rel =>
      have HV:=QpN s.data.toList j a2 a7 E2 IL Ha2.out Ha7.out WR.out WS.out;rw [HV];refine ⟨j+1,by omega,by omega,by go_num,(heap_setCell_other _ _ _ _ (by simp)).trans hr,?_,(hb.drewN _).setCell (by simp) _⟩;rw [QpM s.data.toList j hj];exact Q6 _ hv
     case measure=>simp [intOf];omega
    ·have WT:j=64:=by omega
     subst WT;go_wp2_with (first|(refine wpList_load_row rfl 293 _ rfl (w.heap.size+1) rfl 293 _ _ _ hv Tryz.underlying293 rfl (by rw [Dj,Sha.cV];kernel_rfl) ?_)|(refine wpList_store_row rfl 293 _ _ rfl w.heap.size _ rfl rfl 293 _ hr (by rw [Dj,Sha.cV];kernel_rfl) (by rw [Dj,Dj,Sha.cV,Sha.af]) (W6 _) ?_));exact bodyPost_ret (results_cell_row Tryz.results211 _ _ w.heap.size 293 _ (0,0) _ rfl (setRow_heap _ _ _ _ _ _ hr) Tryz.underlying293 rfl (by rw [Dj,Sha.cV];kernel_rfl)) rfl ⟨rfl,hb.setRow (Nat.le_refl _) _⟩
open Go.RowKit
abbrev vals (s:Sha.St):Array Value:=#[.int .u32 ((s.a:Nat):Int),.int .u32 ((s.b:Nat):Int),.int .u32 ((s.c:Nat):Int),.int .u32 ((s.d:Nat):Int),.int .u32 ((s.e:Nat):Int),.int .u32 ((s.f:Nat):Int),.int .u32 ((s.g:Nat):Int),.int .u32 ((s.h:Nat):Int)]
abbrev J6:Array Value:=#[.int .u32 0,.int .u32 0,.int .u32 0,.int .u32 0,.int .u32 0,.int .u32 0,.int .u32 0,.int .u32 0]
def ic (w:World):Prop:=1<w.heap.size/\∀ i,i<64->w.cell? ⟨1,i,none⟩=some (.int .u32 ((Sha.sg.getD i 0:Nat):Int))
theorem Tryz.oT:(Tryz.prog.info? 186).map (fun i=>(i.zero,i.size))=some (some (.agg J6),8):=by kernel_rfl
theorem Qkd {P:Program} {f:FuncId} {args:Array Value} {w:World} {m n:Nat} {v:Value}
  (h:Calls P f args (w.drewN (m+n)) fun e w'=>e = .returned v/\w'=w.drewN (m+n)):Calls P f args (w.drewN (m+n)) fun e w''=>e = .returned v/\∃ n,w''=w.drewN (m+n) :=
 h.mono fun _ _ ⟨he,hm⟩=>⟨he,n,hm⟩
theorem Qsb:IntKind.u32.max=((4294967295:Nat):Int):=by decide
theorem Qsc (e:Nat) (he:e<4294967296):bits .xor .u32 IntKind.u32.max (e:Int)=((4294967295 - e:Nat):Int):=by
 rw [Qsb,u32_xor_nat _ _ (by omega) he];congr 1;apply Nat.eq_of_testBit_eq;intro i;rw [Nat.testBit_xor,show (4294967295:Nat)=2 ^ 32 - 1 from rfl,Nat.testBit_two_pow_sub_one,show 2 ^ 32 - 1 - e=2 ^ 32 - (e+1) from by omega,Nat.testBit_two_pow_sub_succ (by omega)]
 by_cases hi:i<32
 ·simp [hi]
 ·have:e.testBit i=false:=Nat.testBit_lt_two_pow (Nat.lt_of_lt_of_le he (by have:=Nat.pow_le_pow_right (n:=2) (by omega) (show 32<=i by omega);omega));simp [hi,this]
theorem Qt0 (e f g:Nat) (he:e<4294967296) (hf:f<4294967296) (hg:g<4294967296):bits .xor .u32 (bits .and .u32 (e:Int) (f:Int)) (bits .and .u32 (bits .xor .u32 IntKind.u32.max (e:Int)) (g:Int))=((Sha.IP e f g:Nat):Int):=by
 rw [Qsc e he,u32_and_nat _ _ he hf,u32_and_nat _ _ (by omega) hg,u32_xor_nat _ _ (Sha.iH he) (Sha.iH (by omega))];rfl
theorem Qvt (z e f g xk xw:Nat) (he:e<4294967296) (hf:f<4294967296) (hg:g<4294967296) :
  ((z:Int)+((Sha.kD e 6 11 25:Nat):Int)+bits .xor .u32 (bits .and .u32 (e:Int) (f:Int)) (bits .and .u32 (bits .xor .u32 IntKind.u32.max (e:Int)) (g:Int))+(xk:Int)+(xw:Int)) % 4294967296=(((z+Sha.kD e 6 11 25+Sha.IP e f g+xk+xw) % 4294967296:Nat):Int):=by
 rw [Qt0 e f g he hf hg];omega
theorem Qsd (a b c:Nat) (ha:a<4294967296) (hb:b<4294967296) (hc:c<4294967296):bits .xor .u32 (bits .xor .u32 (bits .and .u32 (a:Int) (b:Int)) (bits .and .u32 (a:Int) (c:Int))) (bits .and .u32 (b:Int) (c:Int))=((Sha.Oa a b c:Nat):Int):=by
 rw [u32_and_nat _ _ ha hb,u32_and_nat _ _ ha hc,u32_and_nat _ _ hb hc,u32_xor_nat _ _ (Sha.iH ha) (Sha.iH ha),u32_xor_nat _ _ (Sha.sj (Sha.iH ha) (Sha.iH ha)) (Sha.iH hb)];rfl
theorem QpQ (a b c d e f g z xk xw T:Nat) (ha:a<4294967296) (hb:b<4294967296) (hc:c<4294967296) (hT:Sha.Ob ⟨a,b,c,d,e,f,g,z⟩ xk xw=T) :
  (#[.int .u32 (((T:Int)+(((Sha.kD a 2 13 22:Nat):Int)+bits BinOp.xor IntKind.u32 (bits BinOp.xor IntKind.u32 (bits BinOp.and IntKind.u32 (a:Int) (b:Int)) (bits BinOp.and IntKind.u32 (a:Int) (c:Int))) (bits BinOp.and IntKind.u32 (b:Int) (c:Int)))) % 4294967296),.int .u32 (a:Int),.int .u32 (b:Int),.int .u32 (c:Int),.int .u32 (((d:Int)+(T:Int)) % 4294967296),.int .u32 (e:Int),.int .u32 (f:Int),.int .u32 (g:Int)]:Array Value)
   = vals (Sha.step ⟨a,b,c,d,e,f,g,z⟩ xk xw):=by
 rw [Qsd a b c ha hb hc];unfold vals Sha.step Sha.WZ;dsimp only;rw [hT];have e1:((T:Int)+(((Sha.kD a 2 13 22:Nat):Int)+((Sha.Oa a b c:Nat):Int))) % 4294967296=(((T+(Sha.kD a 2 13 22+Sha.Oa a b c) % 4294967296) % 4294967296:Nat):Int):=by omega
 have e2:((d:Int)+(T:Int)) % 4294967296=(((d+T) % 4294967296:Nat):Int):=by omega
 rw [e1,e2]
theorem QpR:(Tryz.prog.info? 186).map (·.size)=some 8:=by kernel_rfl
theorem E5 (x0 x1 x2 x3 x4 x5 x6 x7:Value):(Tryz.prog.info? 186).map (·.size)=some (#[x0,x1,x2,x3,x4,x5,x6,x7]:Array Value).size:=QpR
theorem Q2 (x0 x1 x2 x3 x4 x5 x6 x7 y0 y1 y2 y3 y4 y5 y6 y7:Value):(#[x0,x1,x2,x3,x4,x5,x6,x7]:Array Value).size=(#[y0,y1,y2,y3,y4,y5,y6,y7]:Array Value).size:=rfl
theorem Q4 (n0 n1 n2 n3 n4 n5 n6 n7:Int):(#[.int .u32 n0,.int .u32 n1,.int .u32 n2,.int .u32 n3,.int .u32 n4,.int .u32 n5,.int .u32 n6,.int .u32 n7]:Array Value).all (·.oneCell')=true:=by simp [Value.oneCell']
theorem E3 {w:World} {g:Nat} {t:TypeId} {v0 v1 v2 v3 v4 v5 v6 v7:Value} (h:w.heap[g]? = some (.cells #[v0,v1,v2,v3,v4,v5,v6,v7] t (0,0))) :
  w.cell? ⟨g,0,none⟩=some v0/\w.cell? ⟨g,1,none⟩=some v1/\w.cell? ⟨g,2,none⟩=some v2/\w.cell? ⟨g,3,none⟩=some v3/\w.cell? ⟨g,4,none⟩=some v4/\w.cell? ⟨g,5,none⟩=some v5/\w.cell? ⟨g,6,none⟩=some v6/\w.cell? ⟨g,7,none⟩=some v7:=by
 have c:=fun j=>cell_of_row w g j _ t _ h
 exact ⟨c 0,c 1,c 2,c 3,c 4,c 5,c 6,c 7⟩
theorem Qmj (s:Sha.St) (blk:ByteArray) (ws:List Nat) (w:World) (hs:s.Ok) (hlen:ws.length=64) (E6:Hid (∀ w,Calls Tryz.prog 211 #[.string blk] w fun e w'=>e = .returned (.agg (kE ws))/\Below w.heap.size w w')) (hK:ic w) :
  Calls Tryz.prog 164 #[.agg (vals s),.string blk] w fun e w'=>e = .returned (.agg (vals (Sha.add s (Sha.eC ws s 64))))/\Below w.heap.size w w':=by
 have hz7:=(zero_of_info Tryz.ur).1;have QZ:=(zero_of_info Tryz.oT).1;go_enter Tryz.func164,Tryz.ntmps164;go_wp2_with fail;refine (E6.out _).mono ?_;rintro e w1 ⟨rfl,hb1⟩;dsimp only;obtain ⟨hz,rI,Be,lu⟩:=Qt2 hb1;clear hb1;obtain ⟨c0,c1,c2,c3,c4,c5,c6,c7⟩:=E3 rI;have hz':w.heap.size<w1.heap.size:=by omega
 go_wp2_with (refine wpList_store_row rfl 293 _ _ rfl w1.heap.size _ rfl rfl 293 _ (heap_alloc_new _ _) (by rw [Dj,hlen];kernel_rfl) (by rw [Dj,Dj,hlen,Sha.af]) (W6 _) ?_;rw [World.setRow_alloc_new])
 go_loopw [22] (fun i wr=>∃ k:Nat,k<=64/\i = .int .i64 k/\wr.heap[w1.heap.size]? = some (.cells (kE ws) 293 (0,0))/\wr.heap[w1.heap.size+1]? = some (.cells (vals (Sha.eC ws s k)) 186 (0,0))/\Below w1.heap.size w1 wr)
  (fun i _=>64 - (intOf i).toNat)
 case atStart=>exact ⟨0,Nat.zero_le _,rfl,heap_alloc2_old _ _ _,heap_alloc2_new _ _ _,((Below.refl _ _).alloc (Nat.le_refl _) _).alloc (by simp) _⟩
 case round =>
  obtain ⟨k,hk,rfl,hw,hv,hb⟩:=hrel
  by_cases hlt:k<64
  ·have aF:=Sha.p8 (ws:=ws) hs k;obtain ⟨v,Ak⟩ : ∃ v,v=Sha.eC ws s k:=⟨_,rfl⟩;rw [<- Ak] at aF hv;have HV:=aa Ak;clear Ak;obtain ⟨a,b,c,d,e,f,g,z⟩:=v;obtain ⟨oa,ob,oc,od,oe,of,og,oh⟩:=aF;dsimp only at oa ob oc od oe of og oh hv;obtain ⟨v0,v1,v2,v3,v4,v5,v6,v7⟩:=E3 hv;have hwk:=Bg hw k (by rw [hlen];omega);have Dk:wr.cell? ⟨1,k,none⟩=some (.int .u32 ((Sha.sg.getD k 0:Nat):Int)):=((hb.cell (p:=⟨1,k,none⟩) (by show 1<_;have:=hK.1;omega)).trans (lu.cell (p:=⟨1,k,none⟩) hK.1)).trans (hK.2 k hlt);generalize bV:ws.getD k 0=xw at hwk;generalize W7:Sha.sg.getD k 0=xk at Dk;have eD:=aa bV;have HXK:=aa W7;clear bV W7 c0 c1 c2 c3 c4 c5 c6 c7;go_wp2
   go_quiet (fail)
   go_wp2
   go_quiet ((go_at_call 212;exact Qkd (W8 e 6 11 25 _ oe (by decide) (by decide) (by decide) (by decide) (by decide) (by decide))))
   go_wp2_with fail;rw [Qvt z e f g xk xw oe of og];have HT:Hid (Sha.Ob ⟨a,b,c,d,e,f,g,z⟩ xk xw=(z+Sha.kD e 6 11 25+Sha.IP e f g+xk+xw) % 4294967296):=rfl;have hTl:(z+Sha.kD e 6 11 25+Sha.IP e f g+xk+xw) % 4294967296<4294967296:=Nat.mod_lt _ (by omega);generalize (z+Sha.kD e 6 11 25+Sha.IP e f g+xk+xw) % 4294967296=T at HT hTl ⊢;refine (W8 a 2 13 22 _ oa (by decide) (by decide) (by decide) (by decide) (by decide) (by decide)).mono ?_;rintro _ _ ⟨rfl,rfl⟩;dsimp only;have hv':∀ n,(wr.drewN n).heap[w1.heap.size+1]? = some (.cells #[.int .u32 (a:Int),.int .u32 (b:Int),.int .u32 (c:Int),.int .u32 (d:Int),.int .u32 (e:Int),.int .u32 (f:Int),.int .u32 (g:Int),.int .u32 (z:Int)] 186 (0,0)):=fun n=>hv
   go_wp2_with (refine wpList_store_row rfl 186 _ _ rfl (w1.heap.size+1) _ rfl rfl 186 _ (hv' _) (E5 _ _ _ _ _ _ _ _) (Q2 _ _ _ _ _ _ _ _ _ _ _ _ _ _ _ _) (Q4 _ _ _ _ _ _ _ _) ?_)
   go_roundw
   case rel =>
    refine ⟨k+1,by omega,by go_num,(setRow_other _ _ _ _ (by omega)).trans hw,?_,(hb.drewN _).setRow (by omega) _⟩;refine (setRow_heap _ _ _ _ _ _ (hv' _)).trans ?_;rw [QpQ a b c d e f g z xk xw T oa ob oc HT.out,HV.out,<- eD.out,<- HXK.out];rfl
   case measure=>simp [intOf];omega
  ·have HK:Hid (k=64):=by show k=64;omega
   obtain ⟨v,Ak⟩ : ∃ v,v=Sha.eC ws s 64:=⟨_,rfl⟩;rw [HK.out,<- Ak] at hv;have HV:=aa Ak;clear Ak;have hA:wr.heap[w.heap.size]? = some (.cells (kE [s.a,s.b,s.c,s.d,s.e,s.f,s.g,s.h]) 186 (0,0)):=(hb.block _ (by omega)).trans rI;have hR:wr.heap[w.heap.size+1]? = some (.cells J6 186 (0,0)):=(hb.block _ (by omega)).trans Be;have hV:wr.heap[w1.heap.size+1]? = some (.cells (kE [v.a,v.b,v.c,v.d,v.e,v.f,v.g,v.h]) 186 (0,0)):=hv;have J8:Below w.heap.size w wr:=lu.trans (hb.mono (by omega));clear hv hb hw c0 c1 c2 c3 c4 c5 c6 c7 rI Be lu;go_wp2
   go_loopw [90] (fun i wr=>∃ j:Nat,j<=8/\i = .int .i64 j/\wr.heap[w.heap.size]? = some (.cells (kE (Sha.lJ [s.a,s.b,s.c,s.d,s.e,s.f,s.g,s.h] [v.a,v.b,v.c,v.d,v.e,v.f,v.g,v.h] j)) 186 (0,0))/\wr.heap[w.heap.size+1]? = some (.cells J6 186 (0,0))/\wr.heap[w1.heap.size+1]? = some (.cells (kE [v.a,v.b,v.c,v.d,v.e,v.f,v.g,v.h]) 186 (0,0))/\Below w.heap.size w wr)
    (fun i _=>8 - (intOf i).toNat)
   case atStart=>exact ⟨0,Nat.zero_le _,rfl,hA,hR,hV,J8⟩
   case round =>
    clear hA hR hV J8;obtain ⟨j,hj,rfl,hA,hR,hV,J8⟩:=hrel
    by_cases eN:j<8
    ·have ha:=Bg hA j (by rw [Sha.vo];simp;omega);have hv:=Bg hV j (by simp;omega);have hf:=frozen_of_row _ _ j _ _ hA;rw [Sha.xx] at ha;generalize hx:[s.a,s.b,s.c,s.d,s.e,s.f,s.g,s.h].getD j 0=x at ha;generalize hy:[v.a,v.b,v.c,v.d,v.e,v.f,v.g,v.h].getD j 0=y at hv;have HX:=aa hx;have HY:=aa hy;clear hx hy;go_wp2
     go_region
     go_wp2
     go_roundw
     case rel =>
      rw [show ((x:Int)+(y:Int)) % 4294967296=(((x+y) % 4294967296:Nat):Int) by omega];refine ⟨j+1,by omega,by go_num,?_,(heap_setCell_other _ _ _ _ (by simp)).trans hR,(heap_setCell_other _ _ _ _ (by simp;omega)).trans hV,(J8.setCell (by simp) _).drew⟩;refine (Q6 _ hA).trans ?_;rw [<- HX.out,<- HY.out];rfl
     case measure=>simp [intOf];omega
    ·have hj8:j=8:=by omega
     subst hj8;have hA':wr.heap[w.heap.size]? = some (.cells (vals (Sha.add s v)) 186 (0,0)):=hA;go_wp2_with (first|(refine wpList_load_row rfl 186 _ rfl w.heap.size rfl 186 _ _ _ hA' Tryz.underlying186 rfl (E5 _ _ _ _ _ _ _ _) ?_)|(refine wpList_store_row rfl 186 _ _ rfl (w.heap.size+1) _ rfl rfl 186 _ hR (E5 _ _ _ _ _ _ _ _) (Q2 _ _ _ _ _ _ _ _ _ _ _ _ _ _ _ _) (Q4 _ _ _ _ _ _ _ _) ?_));rw [<- HV.out];exact bodyPost_ret (results_cell_row Tryz.results164 _ _ (w.heap.size+1) 186 _ (0,0) _ rfl (setRow_heap _ _ _ _ _ _ hR) Tryz.underlying186 rfl (E5 _ _ _ _ _ _ _ _)) rfl ⟨rfl,J8.setRow (by omega) _⟩
theorem Qnk (s:Sha.St) (blk:ByteArray) (w:World) (hs:s.Ok) (hsz:blk.size=64) (hK:ic w) :
  Calls Tryz.prog 164 #[.agg (vals s),.string blk] w fun e w'=>e = .returned (.agg (vals (Sha.block s blk.data.toList)))/\Below w.heap.size w w' :=
 Qmj s blk (Sha.words blk.data.toList) w hs (Sha.vp _) (fun w=>QpO blk w hsz) hK
open Go.RowKit
theorem WU {w:World} {g:Nat} {t:TypeId} {x0 x1 x2 x3 x4 x5 x6 x7:Value} (y0 y1 y2 y3 y4 y5 y6 y7:Value) (h:w.heap[g]? = some (.cells #[x0,x1,x2,x3,x4,x5,x6,x7] t (0,0))) :
  ((((((((w.setCell ⟨g,0,none⟩ y0).setCell ⟨g,1,none⟩ y1).setCell ⟨g,2,none⟩ y2).setCell ⟨g,3,none⟩ y3).setCell ⟨g,4,none⟩ y4).setCell ⟨g,5,none⟩ y5).setCell ⟨g,6,none⟩ y6).setCell ⟨g,7,none⟩ y7).heap[g]? = some (.cells #[y0,y1,y2,y3,y4,y5,y6,y7] t (0,0)):=by
 have h0:=heap_setCell_same w g 0 _ t y0 h;simp only [List.setIfInBounds_toArray,List.set_cons_zero] at h0;have h1:=heap_setCell_same _ g 1 _ t y1 h0;simp only [List.setIfInBounds_toArray,List.set_cons_zero,List.set_cons_succ] at h1;have h2:=heap_setCell_same _ g 2 _ t y2 h1;simp only [List.setIfInBounds_toArray,List.set_cons_zero,List.set_cons_succ] at h2;have h3:=heap_setCell_same _ g 3 _ t y3 h2;simp only [List.setIfInBounds_toArray,List.set_cons_zero,List.set_cons_succ] at h3;have h4:=heap_setCell_same _ g 4 _ t y4 h3;simp only [List.setIfInBounds_toArray,List.set_cons_zero,List.set_cons_succ] at h4;have h5:=heap_setCell_same _ g 5 _ t y5 h4;simp only [List.setIfInBounds_toArray,List.set_cons_zero,List.set_cons_succ] at h5;have h6:=heap_setCell_same _ g 6 _ t y6 h5;simp only [List.setIfInBounds_toArray,List.set_cons_zero,List.set_cons_succ] at h6;have h7:=heap_setCell_same _ g 7 _ t y7 h6;simpa only [List.setIfInBounds_toArray,List.set_cons_zero,List.set_cons_succ] using h7
theorem ic.below {w w1:World} {B:Nat} (h:ic w) (hb:Below B w w1) (hB:1<B):ic w1 :=
 ⟨by have:=h.1;have:=hb.size;omega,fun i hi=>(hb.cell (p:=⟨1,i,none⟩) hB).trans (h.2 i hi)⟩
theorem ic.drew {w:World} (h:ic w):ic w.drew:=h
theorem WW (s:Sha.St) (bs:ByteArray) (w:World) (hs:s.Ok) (hm:bs.size<=maxLen - 64) (hsz:bs.size % 64=0) (hK:ic w) :
  Calls Tryz.prog 111 #[.agg (vals s),.string bs] w fun e w'=>e = .returned (.agg (vals (Sha.jh s bs.data.toList (bs.size / 64))))/\Below w.heap.size w w':=by
 unfold maxLen at hm;have QZ:=(zero_of_info Tryz.oT).1;have N9:=hK.1;go_enter Tryz.func111,Tryz.ntmps111;go_wp2
 go_loopw [5] (fun i wr=>∃ k:Nat,64 * k<=bs.size/\i = .int .i64 ((64 * k:Nat):Int)/\wr.heap[w.heap.size]? = some (.cells (vals (Sha.jh s bs.data.toList k)) 186 (0,0))/\wr.heap[w.heap.size+1]? = some (.cells J6 186 (0,0))/\Below w.heap.size w wr)
  (fun i _=>bs.size - (intOf i).toNat)
 case atStart=>exact ⟨0,by omega,rfl,heap_alloc2_old _ _ _,heap_alloc2_new _ _ _,((Below.refl _ _).alloc (Nat.le_refl _) _).alloc (by simp) _⟩
 case round =>
  obtain ⟨k,hk,rfl,hv,hr,hb⟩:=hrel;have aF:=Sha.p7 hs bs.data.toList k;obtain ⟨st,hst⟩ : ∃ st,st=Sha.jh s bs.data.toList k:=⟨_,rfl⟩;rw [<- hst] at aF hv;have HST:=aa hst;clear hst;obtain ⟨at_,hat⟩ : ∃ at_,at_=64 * k:=⟨_,rfl⟩;rw [<- hat] at hk ⊢;have Aj:=aa hat;clear hat
  by_cases hlt:at_<bs.size
  ·have vk:at_+64<=bs.size:=by have:=Aj.out;omega
   obtain ⟨c0,c1,c2,c3,c4,c5,c6,c7⟩:=E3 hv;have hKr:ic wr:=hK.below hb N9;have hzb:=hb.size;have HC:Hid (Calls Tryz.prog 164 #[.agg (vals st),.string (bs.extract at_ (at_+64))] wr.drew fun e w1=>e = .returned (.agg (vals (Sha.block st (bs.extract at_ (at_+64)).data.toList)))/\Below w.heap.size w w1/\w.heap.size<w1.heap.size/\w1.heap[w.heap.size]? = some (.cells (vals st) 186 (0,0))/\w1.heap[w.heap.size+1]? = some (.cells J6 186 (0,0))):=by
    have J7:=eB hr;refine (Qnk st _ wr.drew aF (by simp;omega) hKr.drew).mono ?_;rintro e w1 ⟨rfl,hb1⟩;exact ⟨rfl,(hb.drew).trans (hb1.mono (by show _<=wr.heap.size;omega)),by have:=hb1.size;have e1:wr.drew.heap.size=wr.heap.size:=rfl;omega,(hb1.block _ (by show _<wr.heap.size;omega)).trans hv,(hb1.block _ (by show _<wr.heap.size;omega)).trans hr⟩
   have q1:IntKind.i64.wrap ((at_:Int)+64)=(at_:Int)+64:=by rw [IntKind.wrap_i64];omega
   have q2:(0:Int)<=(at_:Int)+64:=by omega
   have q3:(at_:Int)+64<=(bs.size:Int):=by omega
   have q4:((at_:Int)+64).toNat=at_+64:=by omega
   have q5:at_<=bs.size:=by omega
   have q6:(at_:Int)<=(at_:Int)+64:=by omega
   go_wp2
   go_region_with ((go_at_call 164;refine (HC.out).mono ?_;rintro e w1 ⟨rfl,gJ,hz1,vn,hr1⟩;obtain ⟨d0,d1,d2,d3,d4,d5,d6,d7⟩:=E3 vn;have f0:=fun j=>frozen_of_row w1 w.heap.size j _ _ vn))
   generalize E4:Sha.block st (List.take 64 (List.drop at_ bs.data.toList))=st2;have Q1:=aa E4;clear E4 d0 d1 d2 d3 d4 d5 d6 d7 f0 c0 c1 c2 c3 c4 c5 c6 c7;go_wp2
   go_roundw
   case rel =>
    refine ⟨k+1,by have:=Aj.out;omega,by have:=Aj.out;go_num,?_,?_,?_⟩
    ·refine (WU _ _ _ _ _ _ _ _ vn).trans ?_;rw [<- Q1.out,HST.out,Aj.out];rfl
    ·rw [heap_setCell_other _ _ _ _ (by simp),heap_setCell_other _ _ _ _ (by simp),heap_setCell_other _ _ _ _ (by simp),heap_setCell_other _ _ _ _ (by simp),heap_setCell_other _ _ _ _ (by simp),heap_setCell_other _ _ _ _ (by simp),heap_setCell_other _ _ _ _ (by simp),heap_setCell_other _ _ _ _ (by simp)];exact hr1
    ·exact (((((((gJ.setCell (by simp) _).setCell (by simp) _).setCell (by simp) _).setCell (by simp) _).setCell (by simp) _).setCell (by simp) _).setCell (by simp) _).setCell (by simp) _
   case measure=>simp [intOf];omega
  ·have hke:Hid (k=bs.size / 64):=by show k=_;have:=Aj.out;omega
   go_wp2_with (first|(refine wpList_load_row rfl 186 _ rfl w.heap.size rfl 186 _ _ _ hv Tryz.underlying186 rfl (E5 _ _ _ _ _ _ _ _) ?_)|(refine wpList_store_row rfl 186 _ _ rfl (w.heap.size+1) _ rfl rfl 186 _ hr (E5 _ _ _ _ _ _ _ _) (Q2 _ _ _ _ _ _ _ _ _ _ _ _ _ _ _ _) (Q4 _ _ _ _ _ _ _ _) ?_));rw [<- hke.out,<- HST.out];exact bodyPost_ret (results_cell_row Tryz.results111 _ _ (w.heap.size+1) 186 _ (0,0) _ rfl (setRow_heap _ _ _ _ _ _ hr) Tryz.underlying186 rfl (E5 _ _ _ _ _ _ _ _)) rfl ⟨rfl,hb.setRow (by omega) _⟩
open Go.RowKit
theorem Qsf (x0 x1 x2 x3 x4 x5 x6 x7:Value) (w:World):(Instr.index 186 (.agg #[x0,x1,x2,x3,x4,x5,x6,x7]) (.int .i64 0)).run Tryz.prog w = .ok x0 w:=by kernel_rfl
theorem Qsg (x0 x1 x2 x3 x4 x5 x6 x7:Value) (w:World):(Instr.index 186 (.agg #[x0,x1,x2,x3,x4,x5,x6,x7]) (.int .i64 1)).run Tryz.prog w = .ok x1 w:=by kernel_rfl
theorem Qsh (x0 x1 x2 x3 x4 x5 x6 x7:Value) (w:World):(Instr.index 186 (.agg #[x0,x1,x2,x3,x4,x5,x6,x7]) (.int .i64 2)).run Tryz.prog w = .ok x2 w:=by kernel_rfl
theorem Qsi (x0 x1 x2 x3 x4 x5 x6 x7:Value) (w:World):(Instr.index 186 (.agg #[x0,x1,x2,x3,x4,x5,x6,x7]) (.int .i64 3)).run Tryz.prog w = .ok x3 w:=by kernel_rfl
theorem Qsj (x0 x1 x2 x3 x4 x5 x6 x7:Value) (w:World):(Instr.index 186 (.agg #[x0,x1,x2,x3,x4,x5,x6,x7]) (.int .i64 4)).run Tryz.prog w = .ok x4 w:=by kernel_rfl
theorem Qsk (x0 x1 x2 x3 x4 x5 x6 x7:Value) (w:World):(Instr.index 186 (.agg #[x0,x1,x2,x3,x4,x5,x6,x7]) (.int .i64 5)).run Tryz.prog w = .ok x5 w:=by kernel_rfl
theorem Qsl (x0 x1 x2 x3 x4 x5 x6 x7:Value) (w:World):(Instr.index 186 (.agg #[x0,x1,x2,x3,x4,x5,x6,x7]) (.int .i64 6)).run Tryz.prog w = .ok x6 w:=by kernel_rfl
theorem Qsm (x0 x1 x2 x3 x4 x5 x6 x7:Value) (w:World):(Instr.index 186 (.agg #[x0,x1,x2,x3,x4,x5,x6,x7]) (.int .i64 7)).run Tryz.prog w = .ok x7 w:=by kernel_rfl
theorem Qvu (s:Sha.St) (k:Nat) (hk:k<8) (w:World):(Instr.index 186 (.agg (vals s)) (.int .i64 ((k:Nat):Int))).run Tryz.prog w = .ok (.int .u32 ((s.list.getD k 0:Nat):Int)) w:=by
 match k,hk with
 | 0,_=>exact Qsf _ _ _ _ _ _ _ _ w
 | 1,_=>exact Qsg _ _ _ _ _ _ _ _ w
 | 2,_=>exact Qsh _ _ _ _ _ _ _ _ w
 | 3,_=>exact Qsi _ _ _ _ _ _ _ _ w
 | 4,_=>exact Qsj _ _ _ _ _ _ _ _ w
 | 5,_=>exact Qsk _ _ _ _ _ _ _ _ w
 | 6,_=>exact Qsl _ _ _ _ _ _ _ _ w
 | 7,_=>exact Qsm _ _ _ _ _ _ _ _ w
theorem Qmu (s:Sha.St) (w:World) :
  Calls Tryz.prog 112 #[.agg (vals s)] w fun e w'=>e = .returned (.agg (ah (Sha.digest s)))/\Below w.heap.size w w':=by
 have oy:=(zero_of_info Tryz.bY).1;go_enter Tryz.func112,Tryz.ntmps112;go_wp2
 go_loopw [7] (fun i wr=>∃ k:Nat,k<=8/\i = .int .i64 ((k:Nat):Int)/\wr.heap[w.heap.size+1]? = some (.cells (ah (Sha.zeros 32)) 117 (0,0))/\wr.heap[w.heap.size+2]? = some (.cells (ah (Sha.gM s.list k)) 117 (0,0))/\Below w.heap.size w wr)
  (fun i _=>8 - (intOf i).toNat)
 case atStart=>exact ⟨0,by omega,rfl,(Yh _ _ _ _).1,(Yh _ _ _ _).2,(((Below.refl _ _).alloc (Nat.le_refl _) _).alloc (by simp) _).alloc (by simp;omega) _⟩
 case round =>
  obtain ⟨k,hk,rfl,hr,hv,hb⟩:=hrel
  by_cases hlt:k<8
  ·have sK:=fun w=>Qvu s k hlt w
   have c0:=Fg hv (4 * k) (by rw [Sha.bm];omega);have c1:=Fg hv (4 * k+1) (by rw [Sha.bm];omega);have c2:=Fg hv (4 * k+2) (by rw [Sha.bm];omega);have c3:=Fg hv (4 * k+3) (by rw [Sha.bm];omega);have f:=fun j=>frozen_of_row wr (w.heap.size+2) j _ _ hv
   generalize hx:s.list.getD k 0=x at sK;have HX:=aa hx;clear hx;have hzb:=eB hv;go_wp2
   go_roundw
   case rel =>
    rw [show (x:Int) / 16777216 % 256=((x / 16777216 % 256:Nat):Int) by omega,show (x:Int) / 65536 % 256=((x / 65536 % 256:Nat):Int) by omega,show (x:Int) / 256 % 256=((x / 256 % 256:Nat):Int) by omega,show (x:Int) % 256=((x % 256:Nat):Int) by omega];refine ⟨k+1,by omega,by go_num,?_,?_,(((hb.setCell (by simp;omega) _).setCell (by simp;omega) _).setCell (by simp;omega) _).setCell (by simp;omega) _⟩
    ·rw [heap_setCell_other _ _ _ _ (by simp),heap_setCell_other _ _ _ _ (by simp),heap_setCell_other _ _ _ _ (by simp),heap_setCell_other _ _ _ _ (by simp)];exact hr
    ·refine (Ff _ (Ff _ (Ff _ (Ff _ hv)))).trans ?_;rw [<- HX.out];rfl
   case measure=>simp [intOf];omega
  ·have hk8:k=8:=by omega
   subst hk8;go_wp2_with (first|(refine wpList_load_row rfl 117 _ rfl (w.heap.size+1+1) rfl 117 _ _ _ hv Tryz.underlying117 rfl (by rw [aY,Sha.bm];exact Ao) ?_)|(refine wpList_store_row rfl 117 _ _ rfl (w.heap.size+1) _ rfl rfl 117 _ hr (by rw [aY,Sha.bm];exact Ao) (by rw [aY,aY,Sha.bm,Sha.af]) (dQ _) ?_));exact bodyPost_ret (results_cell_row Tryz.results112 _ _ (w.heap.size+1) 117 _ (0,0) _ rfl (setRow_heap _ _ _ _ _ _ hr) Tryz.underlying117 rfl (by rw [aY,Sha.bm];exact Ao)) rfl ⟨rfl,hb.setRow (by omega) _⟩
end Go.Proofs.YtncigfibncmioaaGreatDoor
