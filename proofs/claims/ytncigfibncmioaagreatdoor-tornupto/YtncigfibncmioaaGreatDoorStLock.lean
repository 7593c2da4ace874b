/-
  PROVED HERE: the numbers under which this program holds the library's mutex, and that it holds it so.
-/
import Derived.Test.YtncigfibncmioaaGreatDoorProg
import Derived.Conc.MuLone
namespace Go.Proofs.YtncigfibncmioaaGreatDoor
abbrev Tryz.Im:Go.Conc.Locks.MuLink:={ lock:=57,unlock:=58,ilock:=98,iunlock:=99,lockSlow:=152,unlockSlow:=155,disable:=148,enable:=150,acquire:=151,relMerge:=153,cas32:=149,add32:=154,tMutex:=106,tIMutex:=104,tPMutex:=169,tPIMutex:=241,tPI32:=243,tUP:=224,tNoCopy:=101,tU32:=102 }
theorem Tryz.aX:Go.Conc.Locks.MuLib Tryz.prog Tryz.Im :=
 ⟨Tryz.func57,Tryz.func58,Tryz.func98,Tryz.func99,Tryz.func148,Tryz.func150,Tryz.func151,Tryz.func153,Tryz.func149,Tryz.func154,Tryz.underlying104,Tryz.runUnderlying104,Tryz.sizeOf104,Tryz.isAgg104,Tryz.zeroValue104,Tryz.underlying106,Tryz.runUnderlying106,Tryz.sizeOf106,Tryz.isAgg106,Tryz.zeroValue106,Tryz.underlying169,Tryz.runUnderlying169,Tryz.sizeOf169,Tryz.isAgg169,Tryz.zeroValue169,Tryz.underlying241,Tryz.runUnderlying241,Tryz.sizeOf241,Tryz.isAgg241,Tryz.zeroValue241,Tryz.underlying243,Tryz.runUnderlying243,Tryz.sizeOf243,Tryz.isAgg243,Tryz.zeroValue243,Tryz.underlying224,Tryz.runUnderlying224,Tryz.sizeOf224,Tryz.isAgg224,Tryz.zeroValue224,Tryz.underlying101,Tryz.runUnderlying101,Tryz.sizeOf101,Tryz.isAgg101,Tryz.zeroValue101,Tryz.underlying21,Tryz.runUnderlying21,Tryz.sizeOf21,Tryz.isAgg21,Tryz.zeroValue21,by kernel_rfl⟩
end Go.Proofs.YtncigfibncmioaaGreatDoor
