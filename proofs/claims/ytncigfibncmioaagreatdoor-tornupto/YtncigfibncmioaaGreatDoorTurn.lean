/-
  PROVED HERE: what the program's functions turned, turned2 and turned3 answer, for every number of 32 bits: the world stays (turned2 may draw).
-/
import Derived.Test.YtncigfibncmioaaGreatDoorRows
import Derived.Test.YtncigfibncmioaaGreatDoorShaTwo
import Derived.WalkSpells
import Derived.WalkLawsBesides
import Derived.BigQuiet
set_option maxHeartbeats 400000
namespace Go.Proofs.YtncigfibncmioaaGreatDoor
open Go.RowKit
theorem QpK (r:Nat) (h0:0<r) (h1:r<32):bits .and .u64 (IntKind.u64.wrap (-(r:Int))) 31=((32 - r:Nat):Int):=by
 have e:IntKind.u64.wrap (-(r:Int))=((18446744073709551616 - r:Nat):Int):=by
  rw [IntKind.wrap_u64];omega
 rw [e,show (31:Int)=((31:Nat):Int) from rfl,u64_and_nat _ _ (by omega) (by omega),nat_mask5];omega
theorem QtU (x s:Nat):(x:Int) * 2 ^ s % 4294967296=((x * 2 ^ s % 4294967296:Nat):Int):=by
 rw [Int.natCast_emod,Int.natCast_mul,Int.natCast_pow];rfl
theorem QpL (x s:Nat):(x:Int) / 2 ^ s=((x / 2 ^ s:Nat):Int):=by
 rw [Int.natCast_ediv,Int.natCast_pow];rfl
theorem QtV (x r:Nat) (hx:x<4294967296) (hr:r<32):bits .or .u32 ((x:Int) * 2 ^ (32 - r) % 4294967296) ((x:Int) / 2 ^ (32 - (32 - r)))=((Sha.iU x r:Nat):Int):=by
 rw [show 32 - (32 - r)=r from by omega,QtU,QpL,u32_or_nat _ _ (Nat.mod_lt _ (by omega)) (Sha.div_lt hx)];rfl
theorem WM {k:IntKind} {a b:Int} (h:a=b):Ending.returned (.int k a) = .returned (.int k b):=by rw [h]
theorem Qh2 (x r:Int) (w:World) (h0:0<=x) (h1:x<4294967296) (hr:0<r) (hr2:r<32) :
  Calls Tryz.prog 244 #[.int .u32 x,.int .i64 r] w fun e w'=>e = .returned (.int .u32 (Sha.iU x.toNat r.toNat:Nat))/\w'=w:=by
 obtain ⟨x,rfl⟩:=Int.eq_ofNat_of_zero_le h0;obtain ⟨r,rfl⟩:=Int.eq_ofNat_of_zero_le (Int.le_of_lt hr);have hb:=QpK r (by omega) (by omega);have HV:Hid (bits .or .u32 ((x:Int) * 2 ^ (32 - r) % 4294967296) ((x:Int) / 2 ^ (32 - (32 - r)))=((Sha.iU x r:Nat):Int)):=QtV x r (by omega) (by omega);go_enter Tryz.func244,Tryz.ntmps244;go_wp2;go_ret;exact ⟨WM (by rw [Int.toNat_natCast,Int.toNat_natCast];exact HV.out),rfl⟩
theorem W8 (x:Nat) (a b c:Int) (w:World) (h1:x<4294967296) (ha:0<a) (ha2:a<32) (hb:0<b) (hb2:b<32) (hc:0<c) (hc2:c<32) :
  Calls Tryz.prog 212 #[.int .u32 (x:Nat),.int .i64 a,.int .i64 b,.int .i64 c] w fun e w'=>e = .returned (.int .u32 (Sha.kD x a.toNat b.toNat c.toNat:Nat))/\w'=w:=by
 have HV:Hid (bits .xor .u32 (bits .xor .u32 ((Sha.iU x a.toNat:Nat):Int) ((Sha.iU x b.toNat:Nat):Int)) ((Sha.iU x c.toNat:Nat):Int)=((Sha.kD x a.toNat b.toNat c.toNat:Nat):Int)):=by
  show _=_;rw [u32_xor_nat _ _ (Sha.ew h1) (Sha.ew h1),u32_xor_nat _ _ (Sha.sj (Sha.ew h1) (Sha.ew h1)) (Sha.ew h1)];rfl
 go_enter Tryz.func212,Tryz.ntmps212;go_wp2_with (go_at_call 244;refine (Qh2 _ _ _ (by omega) (by omega) (by omega) (by omega)).mono ?_;rintro e w' ⟨rfl,rfl⟩);go_ret;exact ⟨WM HV.out,rfl⟩
theorem Qlb (x:Nat) (a b c:Int) (w:World) (h1:x<4294967296) (ha:0<a) (ha2:a<32) (hb:0<b) (hb2:b<32) (hc:0<c) (hc2:c<32) :
  Calls Tryz.prog 243 #[.int .u32 (x:Nat),.int .i64 a,.int .i64 b,.int .i64 c] w fun e w'=>e = .returned (.int .u32 (Sha.JF x a.toNat b.toNat c.toNat:Nat))/\∃ n,w'=w.drewN n:=by
 have HV:Hid (bits .xor .u32 (bits .xor .u32 ((Sha.iU x a.toNat:Nat):Int) ((Sha.iU x b.toNat:Nat):Int)) ((x:Int) / 2 ^ c.toNat)=((Sha.JF x a.toNat b.toNat c.toNat:Nat):Int)):=by
  show _=_;rw [QpL,u32_xor_nat _ _ (Sha.ew h1) (Sha.ew h1),u32_xor_nat _ _ (Sha.sj (Sha.ew h1) (Sha.ew h1)) (Sha.div_lt h1)];rfl
 go_enter Tryz.func243,Tryz.ntmps243;go_wp2
 go_quiet ((go_at_call 244;exact Calls.quiet_of_same (Qh2 _ _ _ (by omega) (by omega) (by omega) (by omega))))
 go_wp2;go_ret;exact ⟨WM HV.out,_,rfl⟩
end Go.Proofs.YtncigfibncmioaaGreatDoor
