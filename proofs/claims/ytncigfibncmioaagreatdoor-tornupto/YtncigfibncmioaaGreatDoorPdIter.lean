/-
  PROVED HERE: the library's contracts on slices.Sorted(maps.Keys(m)) at this program's own numbers: laid in plain words.
-/
import Derived.Shelf.SlIter.Nil
import Derived.Shelf.SortM.Plain
import Derived.Shelf.SortM.SortNone
import Derived.Test.YtncigfibncmioaaGreatDoorProg
set_option maxHeartbeats 1000000
namespace Go.Proofs.YtncigfibncmioaaGreatDoor
open Go.RowKit Go.Maps Go.Sort Go.Shelf
def Tryz.oI:Go.Shelf.Ren:=⟨fun|7=>147|10=>197|n=>n,fun|23=>147|26=>9|3=>152|28=>239|0=>0|27=>238|33=>114|4=>4|n=>n,fun|n=>n⟩
theorem Tryz.DZ:Go.Proofs.SlLaysZ.n7 Tryz.prog Tryz.oI:={
 mixed:=by kernel_rfl
 f7:=⟨"maps.Keys[map[string]*blobs/disk.file,string,*blobs/disk.file]",by decide,Tryz.func147.trans (congrArg some (by kernel_rfl))⟩
 f10:=⟨"maps.Keys[map[string]*blobs/disk.file,string,*blobs/disk.file]$1",by decide,Tryz.func197.trans (congrArg some (by kernel_rfl))⟩
 t0:=Tryz.underlying0
 a0:=Tryz.isAgg0
 z0:=Tryz.sizeOf0
 v0:=Tryz.zeroValue0
 t4:=Tryz.underlying4
 a4:=Tryz.isAgg4
 z4:=Tryz.sizeOf4
 v4:=Tryz.zeroValue4
 t23:=Tryz.underlying147
 a23:=Tryz.isAgg147
 z23:=Tryz.sizeOf147
 v23:=Tryz.zeroValue147
 t26:=Tryz.underlying9
 a26:=Tryz.isAgg9
 z26:=Tryz.sizeOf9
 v26:=Tryz.zeroValue9
 t27:=Tryz.underlying238
 a27:=Tryz.isAgg238
 z27:=Tryz.sizeOf238
 v27:=Tryz.zeroValue238
 t28:=Tryz.underlying239
 a28:=Tryz.isAgg239
 z28:=Tryz.sizeOf239
 v28:=Tryz.zeroValue239
 t33:=Tryz.underlying114
 a33:=Tryz.isAgg114
 z33:=Tryz.sizeOf114
 v33:=Tryz.zeroValue114 }
def Tryz.kq:Go.Shelf.Ren:=⟨fun|6=>146|8=>195|9=>196|11=>231|13=>209|12=>232|23=>241|24=>242|14=>254|15=>255|16=>256|17=>257|18=>258|19=>259|20=>260|21=>261|22=>262|25=>282|26=>264|27=>265|28=>283|29=>284|30=>218|31=>291|n=>n,fun|26=>9|28=>239|24=>53|0=>0|3=>3|37=>179|48=>102|50=>251|4=>4|40=>312|39=>311|45=>316|5=>5|9=>9|51=>334|55=>338|57=>351|58=>352|33=>114|n=>n,fun|n=>n⟩
theorem Tryz.Ck:Go.Proofs.SlLaysZ.n6 Tryz.prog Tryz.kq:={
 mixed:=by kernel_rfl
 f6:=⟨"slices.Sorted[string]",by decide,Tryz.func146.trans (congrArg some (by kernel_rfl))⟩
 f8:=⟨"slices.Collect[string]",by decide,Tryz.func195.trans (congrArg some (by kernel_rfl))⟩
 f11:=⟨"slices.AppendSeq[[]string,string]",by decide,Tryz.func231.trans (congrArg some (by kernel_rfl))⟩
 t0:=Tryz.underlying0
 a0:=Tryz.isAgg0
 z0:=Tryz.sizeOf0
 v0:=Tryz.zeroValue0
 t24:=Tryz.underlying53
 a24:=Tryz.isAgg53
 z24:=Tryz.sizeOf53
 v24:=Tryz.zeroValue53
 t26:=Tryz.underlying9
 a26:=Tryz.isAgg9
 z26:=Tryz.sizeOf9
 v26:=Tryz.zeroValue9
 t28:=Tryz.underlying239
 a28:=Tryz.isAgg239
 z28:=Tryz.sizeOf239
 v28:=Tryz.zeroValue239
 i26:=by kernel_rfl }
def Tryz.vW:Go.Shelf.Ren:=⟨fun|6=>196|8=>209|9=>232|19=>241|20=>242|21=>254|22=>255|23=>256|24=>257|25=>258|26=>259|27=>260|28=>261|29=>262|36=>282|31=>264|32=>265|37=>283|38=>284|39=>218|41=>291|n=>n,fun|27=>53|29=>9|3=>3|32=>179|26=>53|0=>0|44=>102|46=>251|4=>4|36=>312|35=>311|41=>316|5=>5|9=>9|53=>334|57=>338|63=>351|64=>352|n=>n,fun|n=>n⟩
theorem Tryz.Eb:Go.Proofs.SlLaysM.n6 Tryz.prog Tryz.vW:={
 mixed:=by kernel_rfl
 f6:=⟨"slices.Sort[[]string,string]",by decide,Tryz.func196.trans (congrArg some (by kernel_rfl))⟩
 f8:=Tryz.func209.trans (congrArg some (by kernel_rfl))
 f9:=⟨"slices.pdqsortOrdered[string]",by decide,Tryz.func232.trans (congrArg some (by kernel_rfl))⟩
 f19:=Tryz.func241.trans (congrArg some (by kernel_rfl))
 f20:=Tryz.func242.trans (congrArg some (by kernel_rfl))
 f21:=⟨"slices.insertionSortOrdered[string]",by decide,Tryz.func254.trans (congrArg some (by kernel_rfl))⟩
 f22:=⟨"slices.heapSortOrdered[string]",by decide,Tryz.func255.trans (congrArg some (by kernel_rfl))⟩
 f23:=⟨"slices.breakPatternsOrdered[string]",by decide,Tryz.func256.trans (congrArg some (by kernel_rfl))⟩
 f24:=⟨"slices.choosePivotOrdered[string]",by decide,Tryz.func257.trans (congrArg some (by kernel_rfl))⟩
 f25:=⟨"slices.reverseRangeOrdered[string]",by decide,Tryz.func258.trans (congrArg some (by kernel_rfl))⟩
 f26:=⟨"slices.partialInsertionSortOrdered[string]",by decide,Tryz.func259.trans (congrArg some (by kernel_rfl))⟩
 f27:=⟨"cmp.Less[string]",by decide,Tryz.func260.trans (congrArg some (by kernel_rfl))⟩
 f28:=⟨"slices.partitionEqualOrdered[string]",by decide,Tryz.func261.trans (congrArg some (by kernel_rfl))⟩
 f29:=⟨"slices.partitionOrdered[string]",by decide,Tryz.func262.trans (congrArg some (by kernel_rfl))⟩
 f31:=Tryz.func264.trans (congrArg some (by kernel_rfl))
 f32:=Tryz.func265.trans (congrArg some (by kernel_rfl))
 f36:=⟨"slices.siftDownOrdered[string]",by decide,Tryz.func282.trans (congrArg some (by kernel_rfl))⟩
 f37:=⟨"slices.medianAdjacentOrdered[string]",by decide,Tryz.func283.trans (congrArg some (by kernel_rfl))⟩
 f38:=⟨"slices.medianOrdered[string]",by decide,Tryz.func284.trans (congrArg some (by kernel_rfl))⟩
 f39:=⟨"cmp.isNaN[string]",by decide,Tryz.func218.trans (congrArg some (by kernel_rfl))⟩
 f41:=⟨"slices.order2Ordered[string]",by decide,Tryz.func291.trans (congrArg some (by kernel_rfl))⟩
 t0:=Tryz.underlying0
 a0:=Tryz.isAgg0
 z0:=Tryz.sizeOf0
 v0:=Tryz.zeroValue0
 t3:=Tryz.underlying3
 a3:=Tryz.isAgg3
 z3:=Tryz.sizeOf3
 v3:=Tryz.zeroValue3
 t4:=Tryz.underlying4
 a4:=Tryz.isAgg4
 z4:=Tryz.sizeOf4
 v4:=Tryz.zeroValue4
 t5:=Tryz.underlying5
 a5:=Tryz.isAgg5
 z5:=Tryz.sizeOf5
 v5:=Tryz.zeroValue5
 t9:=Tryz.underlying9
 a9:=Tryz.isAgg9
 z9:=Tryz.sizeOf9
 v9:=Tryz.zeroValue9
 t26:=Tryz.underlying53
 a26:=Tryz.isAgg53
 z26:=Tryz.sizeOf53
 v26:=Tryz.zeroValue53
 t27:=Tryz.underlying53
 a27:=Tryz.isAgg53
 z27:=Tryz.sizeOf53
 v27:=Tryz.zeroValue53
 t29:=Tryz.underlying9
 a29:=Tryz.isAgg9
 z29:=Tryz.sizeOf9
 v29:=Tryz.zeroValue9
 t32:=Tryz.underlying179
 a32:=Tryz.isAgg179
 z32:=Tryz.sizeOf179
 v32:=Tryz.zeroValue179
 t35:=Tryz.underlying311
 a35:=Tryz.isAgg311
 z35:=Tryz.sizeOf311
 v35:=Tryz.zeroValue311
 t36:=Tryz.underlying312
 a36:=Tryz.isAgg312
 z36:=Tryz.sizeOf312
 v36:=Tryz.zeroValue312
 t41:=Tryz.underlying316
 a41:=Tryz.isAgg316
 z41:=Tryz.sizeOf316
 v41:=Tryz.zeroValue316
 t44:=Tryz.underlying102
 a44:=Tryz.isAgg102
 z44:=Tryz.sizeOf102
 v44:=Tryz.zeroValue102
 t46:=Tryz.underlying251
 a46:=Tryz.isAgg251
 z46:=Tryz.sizeOf251
 v46:=Tryz.zeroValue251
 t53:=Tryz.underlying334
 a53:=Tryz.isAgg334
 z53:=Tryz.sizeOf334
 v53:=Tryz.zeroValue334
 t57:=Tryz.underlying338
 a57:=Tryz.isAgg338
 z57:=Tryz.sizeOf338
 v57:=Tryz.zeroValue338
 t63:=Tryz.underlying351
 a63:=Tryz.isAgg351
 z63:=Tryz.sizeOf351
 v63:=Tryz.zeroValue351
 t64:=Tryz.underlying352
 a64:=Tryz.isAgg352
 z64:=Tryz.sizeOf352
 v64:=Tryz.zeroValue352 }
theorem Tryz.Gz (m:Nat):AnyZ.SortsIn Tryz.prog Tryz.kq Fence.wide m :=
 ⟨fun blk off cap ss W hH hblk hsz=>callsIn_wide.2 (AnyM.slices_Sort_string Tryz.Eb blk off cap ss W hH hblk hsz),
  fun p cap W=>callsIn_wide.2 (AnyM.slices_Sort_string_none Tryz.Eb p cap W)⟩
theorem Tryz.tE (mb:Option Nat) (W:World):CallsIn Fence.wide 5 Tryz.prog 147 #[.map mb] W fun e w'=>e = .returned (.func (.func 197) #[] #[.pointer (some ⟨W.heap.size,0,none⟩)])/\w'=W.alloc (.cells #[.map mb] 147) :=
 AnyZ.keys_in Tryz.DZ Fence.wide 5 trivial rfl mb W
theorem Tryz.mN {H:Type} (b nn:Nat) (D0:DataW H) (R:Value->Option (DataW H × List MemPlace)) (w:World) (hown:w.ownsMap Tryz.prog 9 R b nn D0) (Tn:Maps.size D0<=maxLen) (hbytes:Maps.size D0 * 16<=140737488355328) :
  CallsIn Fence.wide 5 Tryz.prog 146 #[.func (.func 197) #[] #[.pointer (some ⟨w.heap.size,0,none⟩)]] (w.alloc (.cells #[.map (some b)] 147)) fun e w'=>∃ (v:Value) (ss:List (List UInt8)),e = .returned v/\ss.Perm (strKeys D0) /\
   w'.ownsRow (w.alloc (.cells #[.map (some b)] 147)).heap.size 9 1 v ss.length ((ss.mergeSort (fun x y=>decide (x<=y))).map encStr)/\(v = .slice none 0 0 ↔ ss = [])/\Below (w.alloc (.cells #[.map (some b)] 147)).heap.size (w.alloc (.cells #[.map (some b)] 147)) w':=by
 have hbl:=hown.lt;have hseq:SeqGives Fence.wide 2 Tryz.prog 197 #[.pointer (some ⟨w.heap.size,0,none⟩)] encStr (fun ss=>ss.Perm (strKeys D0)) (Maps.size D0) (w.alloc (.cells #[.map (some b)] 147)) :=
  AnyZ.keys_gives (ρ:=Tryz.oI) { Tryz.DZ with } Fence.wide _ trivial rfl (by omega) w.heap.size b nn D0 _ (by simp) (by simp) (by
   obtain ⟨es,clock,hb,Ft,hs,hD⟩:=hown;exact ⟨es,clock,(Below.heap_alloc _ _ b hbl).trans hb,Ft,hs,hD⟩)
 exact AnyZ.sorted_in Tryz.Ck Fence.wide 5 trivial trivial trivial trivial rfl (by omega) (Tryz.Gz _) (enters_of Tryz.func196 (by kernel_rfl) rfl) 197 #[.pointer (some ⟨w.heap.size,0,none⟩)] trivial (enters_of Tryz.func197 (by kernel_rfl) rfl) _ _ Tn hbytes _ hseq
end Go.Proofs.YtncigfibncmioaaGreatDoor
