/-
  PROVED HERE: a number's digits, one at a time; no walk.
-/
import Derived.Test.YtncigfibncmioaaGreatDoorDig
import Derived.Lib.ItoaLen
set_option maxHeartbeats 1000000
set_option maxRecDepth 100000
namespace Go.Proofs.YtncigfibncmioaaGreatDoor
open Go.RowKit
theorem Yg (c:Nat) (hc:c<256) (x:Int) (hx:x=(c:Int)) (wr:World):(convert 136 9 (.slice (some ⟨wr.heap.size,0,none⟩) 1 1)).run Tryz.prog (wr.alloc (.cells #[.int .u8 x] 5)) = .ok (.string ⟨[UInt8.ofNat c].toArray⟩) (wr.alloc (.cells #[.int .u8 x] 5)):=by
 refine run_convert_bytes_back (P:=Tryz.prog) _ 136 9 5 ⟨wr.heap.size,0,none⟩ 1 [UInt8.ofNat c] Tryz.underlying136 Tryz.underlying5 Tryz.underlying9 ?_;intro j hj;have Rl:j=0:=by simp at hj;omega
 subst Rl;have e:(⟨wr.heap.size,0,none⟩ : Addr).add 0=⟨wr.heap.size,0,none⟩:=rfl;rw [e,cell_of_row _ wr.heap.size 0 _ _ _ (heap_alloc_new wr (.cells #[.int .u8 x] 5))];have h1:(UInt8.ofNat c).toNat=c:=by simp;omega
 simp [hx,h1]
theorem Qmt (m:Nat) (h:¬ 9<m):Lib.itoa (m:Int) = [UInt8.ofNat (48+m)]:=by
 unfold Lib.itoa;rw [if_neg (by omega),show ((m:Int)).toNat=m by omega];exact Lib.decDigits_one (by omega)
theorem Qnp (m:Nat) (h:9<m):Lib.itoa (m:Int)=Lib.itoa ((m / 10:Nat):Int) ++ [UInt8.ofNat (48+m % 10)]:=by
 unfold Lib.itoa;rw [if_neg (by omega),if_neg (by omega),show ((m:Int)).toNat=m by omega,show (((m / 10:Nat):Int)).toNat=m / 10 by omega];rw [Lib.decDigits,dif_neg (by omega)]
end Go.Proofs.YtncigfibncmioaaGreatDoor
namespace Go.Proofs.YtncigfibncmioaaGreatDoor
open Go.RowKit
theorem Kn (z:Nat) (hz:z<=1000000) (w:World):Calls Tryz.prog 41 #[.int .i64 ((z:Nat):Int)] w fun e w'=>e = .returned (.string ⟨(Lib.itoa z).toArray⟩)/\Below w.heap.size w w':=by
 go_enter Tryz.func41,Tryz.ntmps41;go_wp2
 go_loopw [0,3] (fun n s wr=>∃ (m:Nat) (t:List UInt8),m<=1000000/\t.length+m<=1000100/\n = .int .i64 ((m:Nat):Int)/\s = .string ⟨t.toArray⟩/\Lib.itoa z=Lib.itoa m++t/\Below w.heap.size w wr)
  (fun n _ _=>(intOf n).toNat)
 case atStart=>exact ⟨z,[],hz,by simp;omega,rfl,rfl,by simp,Below.refl _ _⟩
 case round =>
  obtain ⟨m,t,hm,ht,rfl,rfl,he,hb⟩:=hrel;have HE:=aa he;clear he;have q:¬ 9223372036854775807<1+t.length:=by omega
  by_cases h9:9<m
  ·have hcv:=Yg (48+m % 10) (by omega) (48+(m:Int) % 10) (by omega) wr;go_wp2
   go_roundw
   case rel =>
    refine ⟨m / 10,UInt8.ofNat (48+m % 10)::t,by omega,by simp;omega,by go_num,?_,?_,hb.alloc hb.size _⟩
    ·rw [ByteArray.mk_append_mk];simp
    ·rw [HE.out,Qnp m h9,List.append_assoc];rfl
   case measure=>simp [intOf];omega
  ·have hcv:=Yg (48+m) (by omega) (48+(m:Int)) (by omega) wr;go_wp2;go_ret;refine ⟨?_,hb.alloc hb.size _⟩;rw [HE.out,Qmt m h9];simp [ByteArray.mk_append_mk]
end Go.Proofs.YtncigfibncmioaaGreatDoor
