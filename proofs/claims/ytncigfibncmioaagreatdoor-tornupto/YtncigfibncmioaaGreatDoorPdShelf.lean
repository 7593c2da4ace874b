/-
  PROVED HERE: the library's contracts for strings.Clone and maps.Clone at this program's own numbers: laid in plain words.
-/
import Derived.Shelf.Pu.Clone
import Derived.Shelf.SlMaps.Clone
import Derived.Test.YtncigfibncmioaaGreatDoorProg
set_option maxHeartbeats 1000000
set_option maxRecDepth 100000
namespace Go.Proofs.YtncigfibncmioaaGreatDoor
open Go.Shelf Go.RowKit
def Tryz.pE:Go.Shelf.Ren:=⟨fun|25=>206|n=>n,fun|0=>0|3=>3|4=>4|5=>5|9=>9|37=>136|47=>269|n=>n,fun|n=>n⟩
theorem Tryz.zr:Go.Proofs.LaysPu.n25 Tryz.prog Tryz.pE:={
 mixed:=by kernel_rfl
 f25:=Tryz.func206.trans (congrArg some (by kernel_rfl))
 t0:=Tryz.underlying0
 a0:=Tryz.isAgg0
 z0:=Tryz.sizeOf0
 v0:=Tryz.zeroValue0
 i0:=by kernel_rfl
 t3:=Tryz.underlying3
 a3:=Tryz.isAgg3
 z3:=Tryz.sizeOf3
 v3:=Tryz.zeroValue3
 i3:=by kernel_rfl
 t4:=Tryz.underlying4
 a4:=Tryz.isAgg4
 z4:=Tryz.sizeOf4
 v4:=Tryz.zeroValue4
 i4:=by kernel_rfl
 t5:=Tryz.underlying5
 a5:=Tryz.isAgg5
 z5:=Tryz.sizeOf5
 v5:=Tryz.zeroValue5
 i5:=by kernel_rfl
 t9:=Tryz.underlying9
 a9:=Tryz.isAgg9
 z9:=Tryz.sizeOf9
 v9:=Tryz.zeroValue9
 i9:=by kernel_rfl
 t37:=Tryz.underlying136
 a37:=Tryz.isAgg136
 z37:=Tryz.sizeOf136
 v37:=Tryz.zeroValue136
 i37:=by kernel_rfl
 t47:=Tryz.underlying269
 a47:=Tryz.isAgg269
 z47:=Tryz.sizeOf269
 v47:=Tryz.zeroValue269
 i47:=by kernel_rfl }
def Tryz.tF:Go.Shelf.Ren:=⟨fun|5=>87|7=>134|n=>n,fun|4=>4|20=>20|23=>147|25=>9|3=>152|n=>n,fun|n=>n⟩
theorem Tryz.Gn:Go.Proofs.SlLaysW.n5 Tryz.prog Tryz.tF:={
 mixed:=by kernel_rfl
 f5:=⟨"maps.Clone[map[string]*blobs/disk.file,string,*blobs/disk.file]",by decide,Tryz.func87.trans (congrArg some (by kernel_rfl))⟩
 f7:=Tryz.func134.trans (congrArg some (by kernel_rfl))
 t4:=Tryz.underlying4
 a4:=Tryz.isAgg4
 z4:=Tryz.sizeOf4
 v4:=Tryz.zeroValue4
 t20:=Tryz.underlying20
 a20:=Tryz.isAgg20
 z20:=Tryz.sizeOf20
 v20:=Tryz.zeroValue20
 t23:=Tryz.underlying147
 a23:=Tryz.isAgg147
 z23:=Tryz.sizeOf147
 v23:=Tryz.zeroValue147 }
theorem ZC (s:ByteArray) (w:World) (hs:s.size<=281474976710656):Calls Tryz.prog 158 #[.string s] w fun e w'=>e = .returned (.string s)/\Below w.heap.size w w':=by
 have HC:=AnyPu.stringslite_Clone Tryz.zr s w hs;go_enter Tryz.func158,Tryz.ntmps158;go_wp2_with fail;refine HC.mono ?_;rintro _ w1 ⟨rfl,hb⟩;dsimp only;go_wp2_with fail;go_ret;exact ⟨rfl,hb⟩
end Go.Proofs.YtncigfibncmioaaGreatDoor
