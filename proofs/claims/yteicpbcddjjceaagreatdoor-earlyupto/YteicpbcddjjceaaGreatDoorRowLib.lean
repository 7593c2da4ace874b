/-
  PROVED HERE: strconv.Itoa and Builder.WriteString, laid from the shelf.
-/
import Derived.Test.YteicpbcddjjceaaGreatDoorShelf
import Derived.Shelf.LaysM
import Derived.Shelf.Strconv.Itoa3
import Derived.Test.YteicpbcddjjceaaGreatDoorPrintLib
import Derived.Lib.ItoaLen
import Derived.Test.YteicpbcddjjceaaGreatDoorCheckLib
namespace Go.Proofs.YteicpbcddjjceaaGreatDoor
open Go.Shelf
def Tryz.laysM171_ren : Go.Shelf.Ren := ⟨fun | 171 => 109 | 243 => 164 | 246 => 207 | 283 => 233 | 284 => 234 | 285 => 235 | 286 => 236 | 129 => 194 | 317 => 255 | 318 => 256 | 319 => 257 | 320 => 258 | 337 => 265 | 338 => 266 | n => n, fun | 3 => 3 | 9 => 9 | 2 => 2 | 4 => 4 | 171 => 312 | 0 => 0 | 53 => 251 | 37 => 124 | 5 => 5 | 173 => 314 | 212 => 331 | 51 => 61 | 20 => 20 | 213 => 332 | 46 => 125 | 232 => 71 | 233 => 337 | n => n, fun | 17 => 3 | 18 => 4 | 19 => 5 | n => n⟩
theorem Tryz.laysM171 : Go.Proofs.LaysM.n171 Tryz.prog Tryz.laysM171_ren := {
  mixed := by kernel_rfl
  f129 := Tryz.func194.trans (congrArg some (by kernel_rfl))
  f171 := Tryz.func109.trans (congrArg some (by kernel_rfl))
  f243 := Tryz.func164.trans (congrArg some (by kernel_rfl))
  f246 := Tryz.func207.trans (congrArg some (by kernel_rfl))
  f283 := Tryz.func233.trans (congrArg some (by kernel_rfl))
  f284 := Tryz.func234.trans (congrArg some (by kernel_rfl))
  f285 := Tryz.func235.trans (congrArg some (by kernel_rfl))
  f286 := Tryz.func236.trans (congrArg some (by kernel_rfl))
  f317 := Tryz.func255.trans (congrArg some (by kernel_rfl))
  f318 := Tryz.func256.trans (congrArg some (by kernel_rfl))
  f319 := Tryz.func257.trans (congrArg some (by kernel_rfl))
  f320 := Tryz.func258.trans (congrArg some (by kernel_rfl))
  f337 := Tryz.func265.trans (congrArg some (by kernel_rfl))
  f338 := Tryz.func266.trans (congrArg some (by kernel_rfl))
  t0 := Tryz.underlying0
  a0 := Tryz.isAgg0
  z0 := Tryz.sizeOf0
  v0 := Tryz.zeroValue0
  t2 := Tryz.underlying2
  a2 := Tryz.isAgg2
  z2 := Tryz.sizeOf2
  v2 := Tryz.zeroValue2
  t3 := Tryz.underlying3
  a3 := Tryz.isAgg3
  z3 := Tryz.sizeOf3
  v3 := Tryz.zeroValue3
  t4 := Tryz.underlying4
  a4 := Tryz.isAgg4
  z4 := Tryz.sizeOf4
  v4 := Tryz.zeroValue4
  t5 := Tryz.underlying5
  a5 := Tryz.isAgg5
  z5 := Tryz.sizeOf5
  v5 := Tryz.zeroValue5
  t9 := Tryz.underlying9
  a9 := Tryz.isAgg9
  z9 := Tryz.sizeOf9
  v9 := Tryz.zeroValue9
  t20 := Tryz.underlying20
  a20 := Tryz.isAgg20
  z20 := Tryz.sizeOf20
  v20 := Tryz.zeroValue20
  t37 := Tryz.underlying124
  a37 := Tryz.isAgg124
  z37 := Tryz.sizeOf124
  v37 := Tryz.zeroValue124
  t46 := Tryz.underlying125
  a46 := Tryz.isAgg125
  z46 := Tryz.sizeOf125
  v46 := Tryz.zeroValue125
  t51 := Tryz.underlying61
  a51 := Tryz.isAgg61
  z51 := Tryz.sizeOf61
  v51 := Tryz.zeroValue61
  t53 := Tryz.underlying251
  a53 := Tryz.isAgg251
  z53 := Tryz.sizeOf251
  v53 := Tryz.zeroValue251
  t171 := Tryz.underlying312
  a171 := Tryz.isAgg312
  z171 := Tryz.sizeOf312
  v171 := Tryz.zeroValue312
  t173 := Tryz.underlying314
  a173 := Tryz.isAgg314
  z173 := Tryz.sizeOf314
  v173 := Tryz.zeroValue314
  t212 := Tryz.underlying331
  a212 := Tryz.isAgg331
  z212 := Tryz.sizeOf331
  v212 := Tryz.zeroValue331
  t213 := Tryz.underlying332
  a213 := Tryz.isAgg332
  z213 := Tryz.sizeOf332
  t232 := Tryz.underlying71
  a232 := Tryz.isAgg71
  z232 := Tryz.sizeOf71
  v232 := Tryz.zeroValue71
  t233 := Tryz.underlying337
  a233 := Tryz.isAgg337
  z233 := Tryz.sizeOf337
  v233 := Tryz.zeroValue337
  g17 := by kernel_rfl
  g18 := by kernel_rfl
  g19 := by kernel_rfl
  i0 := by kernel_rfl
  i2 := by kernel_rfl
  i3 := by kernel_rfl
  i4 := by kernel_rfl
  i5 := by kernel_rfl
  i9 := by kernel_rfl
  i20 := by kernel_rfl
  i37 := by kernel_rfl
  i46 := by kernel_rfl
  i51 := by kernel_rfl
  i53 := by kernel_rfl
  i171 := by kernel_rfl
  i173 := by kernel_rfl
  i212 := by kernel_rfl
  i232 := by kernel_rfl
  i233 := by kernel_rfl
  m17 := by kernel_rfl
  m18 := by kernel_rfl
  m19 := by kernel_rfl }
open Go.RowKit Go.Sort Go.Lib in
theorem Tryz.strconv_Itoa (n : Int) (h0 : -9223372036854775808 ≤ n) (h1 : n ≤ 9223372036854775807) (w : World) (htab : Lib.TabIs Tryz.prog w "internal/strconv.uint64pow10" .u64 Lib.pow10Tab) :
    Calls Tryz.prog 109 #[.int .i64 n] w fun e w' => e = .returned (.string ⟨(Lib.itoa n).toArray⟩) ∧ ∃ k os, w' = grow (w.drewN k) os := Any.strconv_Itoa Tryz.laysM171 n h0 h1 w htab
def Tryz.lays166_ren : Go.Shelf.Ren := ⟨fun | 166 => 108 | 240 => 163 | 276 => 206 | n => n, fun | 0 => 0 | 3 => 3 | 4 => 4 | 5 => 5 | 9 => 9 | 20 => 20 | 37 => 124 | 70 => 190 | 72 => 192 | 75 => 96 | 80 => 73 | 164 => 165 | n => n, fun | n => n⟩
theorem Tryz.lays166 : Go.Proofs.Lays.n166 Tryz.prog Tryz.lays166_ren := {
  mixed := by kernel_rfl
  f166 := Tryz.func108.trans (congrArg some (by kernel_rfl))
  f240 := Tryz.func163.trans (congrArg some (by kernel_rfl))
  f276 := Tryz.func206.trans (congrArg some (by kernel_rfl))
  t0 := Tryz.underlying0
  a0 := Tryz.isAgg0
  z0 := Tryz.sizeOf0
  v0 := Tryz.zeroValue0
  t3 := Tryz.underlying3
  a3 := Tryz.isAgg3
  z3 := Tryz.sizeOf3
  v3 := Tryz.zeroValue3
  t4 := Tryz.underlying4
  a4 := Tryz.isAgg4
  z4 := Tryz.sizeOf4
  v4 := Tryz.zeroValue4
  t9 := Tryz.underlying9
  a9 := Tryz.isAgg9
  z9 := Tryz.sizeOf9
  v9 := Tryz.zeroValue9
  t20 := Tryz.underlying20
  a20 := Tryz.isAgg20
  z20 := Tryz.sizeOf20
  v20 := Tryz.zeroValue20
  t37 := Tryz.underlying124
  a37 := Tryz.isAgg124
  z37 := Tryz.sizeOf124
  v37 := Tryz.zeroValue124
  t70 := Tryz.underlying190
  a70 := Tryz.isAgg190
  z70 := Tryz.sizeOf190
  v70 := Tryz.zeroValue190
  t72 := Tryz.underlying192
  a72 := Tryz.isAgg192
  z72 := Tryz.sizeOf192
  v72 := Tryz.zeroValue192
  t75 := Tryz.underlying96
  a75 := Tryz.isAgg96
  z75 := Tryz.sizeOf96
  v75 := Tryz.zeroValue96
  t164 := Tryz.underlying165
  a164 := Tryz.isAgg165
  z164 := Tryz.sizeOf165
  v164 := Tryz.zeroValue165 }
theorem Tryz.Builder_Extra_166 : Builder.Extra Tryz.prog Tryz.lays166_ren := {
  sizeBuilder := by kernel_rfl
  liesBuilder := by kernel_rfl
  t5 := Tryz.underlying5
  a5 := Tryz.isAgg5
  z5 := Tryz.sizeOf5
  v5 := Tryz.zeroValue5
  infoByte := by kernel_rfl
  cellsByte := by kernel_rfl
  sizeByte := by kernel_rfl
  neB5 := by decide }
open Go.RowKit in
theorem Tryz.Builder_WriteString_k (B b : Nat) (bs : List Value) (s : ByteArray) (w : World) (h : Lib.IsBuilderF 192 5 B b bs w) (hlen : bs.length + s.size ≤ 140737488355328) (hBw : B ≤ w.heap.size) :
    Calls Tryz.prog 108 #[.pointer (some ⟨b, 0, none⟩), .string s] w fun e w' => e = .returned (.tuple #[.int .i64 s.size, .nilIface]) ∧ (Lib.BuilderAtF 192 5 B b (.pointer (some ⟨b, 0, none⟩)) (bs ++ Lib.strCells s) w' ∧ Below B w w' ∧ Lib.OthersKept 5 (some b) w w') := Any.Builder_WriteString_k Tryz.lays166 Tryz.Builder_Extra_166 B b bs s w h hlen hBw
end Go.Proofs.YteicpbcddjjceaaGreatDoor

/-
  PROVED HERE: what the program's function Print of package index answers for the entries of an index; nothing that was there has turned.
-/
namespace Go.Proofs.YteicpbcddjjceaaGreatDoor
open Go.RowKit
theorem tab_later {w w' : World} {B : Nat} {name : String} {g : Nat} {k : IntKind} {zs : List Int} (hg : Tryz.prog.globalNamed name = some g) (hB : g < B) (h : Lib.TabIs Tryz.prog w name k zs) (hb : Below B w w') : Lib.TabIs Tryz.prog w' name k zs := by
  unfold Lib.TabIs World.var? at h ⊢
  rw [hg] at h ⊢
  simp only [Option.bind_some] at h ⊢
  rw [hb.block g hB]
  exact h
theorem gPow : Tryz.prog.globalNamed "internal/strconv.uint64pow10" = some 3 := by kernel_rfl
theorem tab_lt {w : World} {name : String} {g : Nat} {k : IntKind} {zs : List Int} (hg : Tryz.prog.globalNamed name = some g) (h : Lib.TabIs Tryz.prog w name k zs) : g < w.heap.size := by
  unfold Lib.TabIs World.var? at h
  rw [hg] at h
  simp only [Option.bind_some] at h
  cases hq : w.heap[g]? with
  | none => rw [hq] at h; cases h
  | some o => exact lt_of_row' hq
theorem itoa_any (z : Int) (h0 : 0 ≤ z) (h1 : z ≤ 300) (w : World) (htab : Lib.TabIs Tryz.prog w "internal/strconv.uint64pow10" .u64 Lib.pow10Tab) :
    Calls Tryz.prog 109 #[.int .i64 z] w fun e w' => e = .returned (.string ⟨(Lib.itoa z).toArray⟩) ∧ Below w.heap.size w w' := by
  refine (Tryz.strconv_Itoa z (by omega) (by omega) w htab).mono ?_
  rintro e w' ⟨rfl, k, os, rfl⟩
  refine ⟨rfl, ⟨rfl, rfl, rfl, ?_, fun j hj => ?_⟩⟩
  · show w.heap.size ≤ (w.heap ++ os).size
    simp
  · show (w.heap ++ os)[j]? = w.heap[j]?
    exact Array.getElem?_append_left hj
theorem head_write (B b : Nat) (w : World) (h : Lib.IsBuilderF 192 5 B b (Lib.byteCells []) w) (hBw : B ≤ w.heap.size) :
    Calls Tryz.prog 108 #[.pointer (some ⟨b, 0, none⟩), .string ⟨#[123, 34, 118, 101, 114, 115, 105, 111, 110, 34, 58, 49, 44, 34, 116, 97, 103, 115, 34, 58, 91]⟩] w fun e w' => e = .returned (.tuple #[.int .i64 21, .nilIface]) ∧ Lib.BuilderAtF 192 5 B b (.pointer (some ⟨b, 0, none⟩)) (Lib.byteCells head1) w' ∧ Below B w w' := by
  refine (Tryz.Builder_WriteString_k B b _ _ w h (by simp [Lib.byteCells_length]; decide) hBw).mono ?_
  rintro e w' ⟨he, h1, h2, _⟩
  exact ⟨he, h1, h2⟩

set_option maxHeartbeats 2000000 in
set_option maxRecDepth 100000 in
theorem print_core (v : Value) (l : List Tg) (w : World) (n : Nat) (hn : l.length = n) (h8 : n ≤ 8) (B : Nat) (hown : w.ownsRow B 130 34 v n (l.flatMap Tg.ecells))
    (hlen : ∀ k, k < n → (l.getD k default).name.size ≤ 20 ∧ 0 ≤ (l.getD k default).size ∧ (l.getD k default).size ≤ 300) (htab : Lib.TabIs Tryz.prog w "internal/strconv.uint64pow10" .u64 Lib.pow10Tab) :
    Calls Tryz.prog 60 #[v] w fun e w' => e = .returned (.string ⟨(prTo l n ++ [93, 125]).toArray⟩) ∧ Below w.heap.size w w' := by
  have HN := hide hn
  have HO := hide hown
  have HL := hide hlen
  have HT := hide htab
  clear hn hown hlen htab
  have hz71 := (zero_of_info Tryz.info71b).1
  have hb0 : Lib.IsBuilderF 192 5 w.heap.size w.heap.size (Lib.byteCells []) (w.alloc (.cells #[.pointer none, .slice none 0 0] 192)) := Or.inl ⟨Nat.le_refl _, _, heap_alloc_new _ _, World.ownsRowF_nil _ _ _ _, by simp [Value.ownBlock]⟩
  have HB0 := hide hb0
  clear hb0
  go_enter Tryz.func60, Tryz.ntmps60
  go_wp2_with fail
  refine (head_write w.heap.size w.heap.size _ HB0.out (by rw [size_alloc]; omega)).mono ?_
  rintro _ w1 ⟨rfl, hB1, hb1⟩
  dsimp only
  have HB1 : Hid (Lib.IsBuilderF 192 5 w.heap.size w.heap.size (Lib.byteCells head1) w1) := Or.inr hB1
  have hbw : Below w.heap.size w w1 := ((Below.refl _ _).alloc (Nat.le_refl _) _).trans hb1
  clear hB1 hb1
  have hv : ∃ oa cap, v = .slice oa n cap := by
    rcases HO.out.2 with ⟨rfl, rfl⟩ | ⟨g, cap, cur, rfl, _⟩
    · exact ⟨none, 0, rfl⟩
    · exact ⟨_, cap, rfl⟩
  obtain ⟨oa, cap, rfl⟩ := hv
  go_wp2
  go_loopw [9] (fun i wr => ∃ k : Nat, k ≤ n ∧ i = .int .i64 ((k : Nat) : Int) ∧ Lib.IsBuilderF 192 5 w.heap.size w.heap.size (Lib.byteCells (prTo l k)) wr ∧ Below w.heap.size w wr)
    (fun i _ => n - (intOf i).toNat)
  case atStart => exact ⟨0, Nat.zero_le _, rfl, HB1.out, hbw⟩
  case round =>
    clear hbw
    obtain ⟨k, hk, rfl, hI, hbel⟩ := hrel
    have HI := hide hI
    clear hI
    by_cases hlt : k < n
    · have hbs := hbel.size
      obtain ⟨g, rfl⟩ : ∃ g, oa = some ⟨g, 0, none⟩ := by
        rcases HO.out.2 with ⟨e, h0⟩ | ⟨g, cap', cur, e, _⟩
        · omega
        · injection e with e1 _ _; exact ⟨g, e1⟩
      have hr := rangeAt_later hbel (ecells_range HO.out k (by rw [HN.out]; exact hlt))
      have hl3 := HL.out k hlt
      generalize hx : l.getD k default = tx at hr hl3
      have HX := hide hx
      clear hx
      obtain ⟨n1, d1, z1⟩ := tx
      have hrd : Tg.ecells ⟨n1, d1, z1⟩ = (ecellsOf n1 (rd d1) z1).toList := rfl
      rw [hrd] at hr
      clear hrd
      generalize hd : rd d1 = ds at hr
      have hdl : ds.length = 32 := by rw [← hd]; exact rd_len _
      have hdlt : ∀ i, ds.getD i 0 < 256 := by rw [← hd]; exact rd_lt _
      have HD := hide hd
      clear hd
      have HR := hide hr
      clear hr
      dsimp only at hl3
      obtain ⟨hn20, hz0, hz300⟩ := hl3
      have hpl := prTo_len l k (fun j hj => HL.out j (by omega))
      obtain ⟨c0, hc0⟩ : ∃ c0, c0 = prTo l k ++ (if 0 < k then [(44 : UInt8)] else []) := ⟨_, rfl⟩
      have hcl : c0.length ≤ 22 + 136 * k := by
        rw [hc0, List.length_append]
        have h4 : (if 0 < k then [(44 : UInt8)] else []).length ≤ 1 := by split <;> simp
        omega
      have HC0 := hide hc0
      clear hc0
      have hE0 : Ent w (wr.alloc (.cells (ecellsOf n1 ds z1) 130)) wr.heap.size n1 ds z1 := ⟨heap_alloc_new _ _, hbel.alloc hbs _⟩
      obtain ⟨dT, hdT⟩ : ∃ dT : ByteArray, dT = ⟨(Sha.textTo ds 32).toArray⟩ := ⟨_, rfl⟩
      have hdTs : dT.size = 64 := by rw [hdT, bytes_size, Sha.textTo_len]
      have C18 : ∀ w, Calls Tryz.prog 23 #[.agg (cells8 ds)] w fun e w' => e = .returned (.string dT) ∧ Below w.heap.size w w' := fun w => by
        rw [hdT]; exact text_any ds w hdl hdlt
      obtain ⟨zT, hzT⟩ : ∃ zT : ByteArray, zT = ⟨(Lib.itoa z1).toArray⟩ := ⟨_, rfl⟩
      have hzTs : zT.size ≤ 21 := by rw [hzT, bytes_size]; exact Lib.itoa_length_le z1 (by omega) (by omega)
      have C47 : ∀ w, Lib.TabIs Tryz.prog w "internal/strconv.uint64pow10" .u64 Lib.pow10Tab → Calls Tryz.prog 109 #[.int .i64 z1] w fun e w' => e = .returned (.string zT) ∧ Below w.heap.size w w' := fun w ht => by
        rw [hzT]; exact itoa_any z1 hz0 hz300 w ht
      have q1 : ¬ 9223372036854775807 < 8 + n1.size := by omega
      have q2 : ¬ 9223372036854775807 < 8 + n1.size + 12 := by omega
      have q3 : ¬ 9223372036854775807 < 8 + n1.size + 12 + 64 := by omega
      have q4 : ¬ 9223372036854775807 < 8 + n1.size + 12 + 64 + 9 := by omega
      have q5 : ¬ 9223372036854775807 < 8 + n1.size + 12 + 64 + 9 + zT.size := by omega
      have q6 : ¬ 9223372036854775807 < 8 + n1.size + 12 + 64 + 9 + zT.size + 1 := by omega
      have HdT := hide hdT
      have HzT := hide hzT
      have H18 := hide C18
      have H47 := hide C47
      clear C18 C47 hdT hzT hdlt
      have i40 := i40len ds hdl
      have l40 : (cells8 ds).toList.length = 32 := by rw [Array.length_toList, cells8_size, hdl]
      have u40 := Tryz.underlying72
      have HE0 := hide hE0
      have hbb : w.heap.size < wr.heap.size := by
        rcases HI.out with h | h
        · exact h.lt
        · exact h.lt
      by_cases hk0 : 0 < k
      · go_wp2_with (first | (refine wpList_load_mid rfl 130 _ rfl g (k * 34) rfl (ecellsOf n1 ds z1).toList _ HR.out Tryz.underlying130 rfl (by rw [Array.length_toList]; exact size71 _ _ _ hdl) ?_) | (refine wpList_store_row rfl 130 _ _ rfl wr.heap.size _ rfl rfl 130 _ (heap_alloc_new _ _) (size71 _ _ _ hdl) (by rw [ecellsOf_size _ _ _ hdl, ecellsOf_size _ _ _ (Sha.zeros_len _)]) (Array.all_eq_true_iff_forall_mem.2 fun u hu => ecellsOf_one _ _ _ u (by simpa using hu)) ?_; rw [World.setRow_alloc_new]) | (go_at_call 108; refine (Tryz.Builder_WriteString_k w.heap.size w.heap.size _ _ _ (HI.out.alloc _) (by rw [Lib.byteCells_length]; show _ + 1 ≤ _; omega) (by rw [size_alloc]; omega)).mono ?_; rintro _ w2 ⟨rfl, hB2, hb2, hk2⟩))
        have hE2 : Ent w w2 wr.heap.size n1 ds z1 := HE0.out.kept hb2 hk2 (by omega)
        have HB2 : Hid (Lib.IsBuilderF 192 5 w.heap.size w.heap.size (Lib.byteCells c0) w2) := by
          refine Or.inr ?_
          rw [HC0.out, if_pos hk0, Lib.byteCells_append]
          exact hB2
        clear hB2 hb2 hk2
        go_region_held3 (fun w' => w'.cell? ⟨wr.heap.size, 0, none⟩ = some (.string n1) ∧ w'.rangeAt wr.heap.size 1 (cells8 ds).toList ∧ w'.cell? ⟨wr.heap.size, 33, none⟩ = some (.int .i64 z1))
          (first | exact (hE2.drew).out hdl | exact ((hE2.drew).later hT).out hdl | exact (((hE2.drew).later hT).later hZ).out hdl | exact ((((hE2.drew).later hT).later hZ).kept hW hK (by omega)).out hdl)
          (first | (go_at_call 23; refine (H18.out _).mono ?_; rintro _ w3 ⟨rfl, hT⟩) | (go_at_call 109; refine (H47.out _ (tab_later gPow (tab_lt gPow HT.out) HT.out ((hE2.drew).later hT).below)).mono ?_; rintro _ w4 ⟨rfl, hZ⟩) | (go_at_call 108; refine (Tryz.Builder_WriteString_k w.heap.size w.heap.size _ _ _ (builder_later (builder_later (w := w2.drew) HB2.out hT) hZ) (by rw [Lib.byteCells_length]; have := big_size n1 dT zT hn20 hdTs hzTs; omega) (((hE2.drew).later hT).later hZ).below.size).mono ?_; rintro _ w5 ⟨rfl, hB5, hW, hK⟩))
        all_goals go_wp2
        all_goals
          go_roundw
          case rel =>
            refine ⟨k + 1, by omega, by go_num, Or.inr ?_, (((hE2.drew).later hT).later hZ).below.trans hW⟩
            have e := big_text n1 d1 dT zT z1 (by rw [HD.out]; exact HdT.out) HzT.out
            rw [e, ← Lib.byteCells_append] at hB5
            have e2 : prTo l (k + 1) = c0 ++ eText ⟨n1, d1, z1⟩ := by rw [prTo, HX.out, HC0.out]
            rw [e2]
            exact hB5
          case measure => simp [intOf]; omega
      · go_wp2_with (first | (refine wpList_load_mid rfl 130 _ rfl g (k * 34) rfl (ecellsOf n1 ds z1).toList _ HR.out Tryz.underlying130 rfl (by rw [Array.length_toList]; exact size71 _ _ _ hdl) ?_) | (refine wpList_store_row rfl 130 _ _ rfl wr.heap.size _ rfl rfl 130 _ (heap_alloc_new _ _) (size71 _ _ _ hdl) (by rw [ecellsOf_size _ _ _ hdl, ecellsOf_size _ _ _ (Sha.zeros_len _)]) (Array.all_eq_true_iff_forall_mem.2 fun u hu => ecellsOf_one _ _ _ u (by simpa using hu)) ?_; rw [World.setRow_alloc_new]))
        have hE2 := HE0.out
        have HB2 : Hid (Lib.IsBuilderF 192 5 w.heap.size w.heap.size (Lib.byteCells c0) (wr.alloc (.cells (ecellsOf n1 ds z1) 130))) := by
          rw [HC0.out, if_neg hk0, List.append_nil]
          exact HI.out.alloc _
        clear HE0 hE0
        generalize wr.alloc (.cells (ecellsOf n1 ds z1) 130) = w2 at hE2 HB2 ⊢
        go_region_held3 (fun w' => w'.cell? ⟨wr.heap.size, 0, none⟩ = some (.string n1) ∧ w'.rangeAt wr.heap.size 1 (cells8 ds).toList ∧ w'.cell? ⟨wr.heap.size, 33, none⟩ = some (.int .i64 z1))
          (first | exact (hE2.drew).out hdl | exact ((hE2.drew).later hT).out hdl | exact (((hE2.drew).later hT).later hZ).out hdl | exact ((((hE2.drew).later hT).later hZ).kept hW hK (by omega)).out hdl)
          (first | (go_at_call 23; refine (H18.out _).mono ?_; rintro _ w3 ⟨rfl, hT⟩) | (go_at_call 109; refine (H47.out _ (tab_later gPow (tab_lt gPow HT.out) HT.out ((hE2.drew).later hT).below)).mono ?_; rintro _ w4 ⟨rfl, hZ⟩) | (go_at_call 108; refine (Tryz.Builder_WriteString_k w.heap.size w.heap.size _ _ _ (builder_later (builder_later (w := w2.drew) HB2.out hT) hZ) (by rw [Lib.byteCells_length]; have := big_size n1 dT zT hn20 hdTs hzTs; omega) (((hE2.drew).later hT).later hZ).below.size).mono ?_; rintro _ w5 ⟨rfl, hB5, hW, hK⟩))
        all_goals go_wp2
        all_goals
          go_roundw
          case rel =>
            refine ⟨k + 1, by omega, by go_num, Or.inr ?_, (((hE2.drew).later hT).later hZ).below.trans hW⟩
            have e := big_text n1 d1 dT zT z1 (by rw [HD.out]; exact HdT.out) HzT.out
            rw [e, ← Lib.byteCells_append] at hB5
            have e2 : prTo l (k + 1) = c0 ++ eText ⟨n1, d1, z1⟩ := by rw [prTo, HX.out, HC0.out]
            rw [e2]
            exact hB5
          case measure => simp [intOf]; omega
    · have hkn : k = n := by omega
      subst hkn
      have hbs := hbel.size
      go_wp2_with fail
      refine (Tryz.Builder_WriteString_k w.heap.size w.heap.size _ _ _ HI.out (by rw [Lib.byteCells_length]; have := prTo_len l k (fun j hj => HL.out j hj); show _ + 2 ≤ _; omega) hbs).mono ?_
      rintro _ w2 ⟨rfl, hB2, hb2, _⟩
      dsimp only
      have e : Lib.byteCells (prTo l k) ++ Lib.strCells ⟨#[93, 125]⟩ = Lib.byteCells (prTo l k ++ [93, 125]) := by rw [Lib.byteCells_append]; rfl
      rw [e] at hB2
      have HB2 : Hid (Lib.IsBuilderF 192 5 w.heap.size w.heap.size (Lib.byteCells (prTo l k ++ [93, 125])) w2) := Or.inr hB2
      have hbw2 := hbel.trans hb2
      clear hB2 hb2 e
      go_wp2_with fail
      refine (Tryz.Builder_String_any_k w.heap.size w.heap.size _ _ HB2.out hbw2.size).mono ?_
      rintro _ w3 ⟨rfl, _, hb3, _⟩
      dsimp only
      go_wp2
      go_ret
      exact ⟨rfl, hbw2.trans hb3⟩
end Go.Proofs.YteicpbcddjjceaaGreatDoor

/-
  PROVED HERE: small facts on rows that one owns; no text of the program.
-/
namespace Go.Proofs.YteicpbcddjjceaaGreatDoor
open Go.RowKit
theorem _root_.Go.World.ownsRow.mono_base {w : World} {base base' : Nat} {v : Value} {n : Nat} {e : TypeId} {size : Nat} {xs : List Value} (h : w.ownsRow base' e size v n xs) (hb : base ≤ base') : w.ownsRow base e size v n xs := by
  refine ⟨h.1, h.2.imp id ?_⟩
  rintro ⟨g, cap, cur, e1, e2, e3⟩
  exact ⟨g, cap, cur, e1, Nat.le_trans hb e2, e3⟩
theorem own_same {w w' : World} {base : Nat} {e : TypeId} {size : Nat} {v : Value} {n : Nat} {xs : List Value} (h : w.ownsRow base e size v n xs) (hb : ∀ k, v.ownBlock = some k → k < w.heap.size → w'.heap[k]? = w.heap[k]?) : w'.ownsRow base e size v n xs := by
  refine ⟨h.1, h.2.imp id ?_⟩
  rintro ⟨g, cap, cur, rfl, e2, e3, e4⟩
  exact ⟨g, cap, cur, rfl, e2, (hb g rfl (lt_of_row e3)).trans e3, e4⟩
theorem tk_ne {w : World} {base b o : Nat} {v : Value} {n : Nat} {e : TypeId} {size : Nat} {xs : List Value} (h : w.ownsRow base e size v n xs) (hb : b < base) : some (⟨b, o, none⟩ : Addr).block ≠ v.ownBlock := by
  intro e
  have := (h.lt b e.symm).1
  omega
theorem own_apart {w : World} {base b : Nat} {v : Value} {n : Nat} {e : TypeId} {size : Nat} {xs : List Value} (h : w.ownsRow base e size v n xs) (hb : b < base) : v.ownBlock = none ∨ v.ownBlock ≠ some b := by
  cases hv : v.ownBlock with
  | none => exact .inl rfl
  | some k => right; intro e; injection e with e; have := (h.lt k hv).1; omega
theorem own_sl {w : World} {base : Nat} {v : Value} {n : Nat} {e : TypeId} {size : Nat} {xs : List Value} (h : w.ownsRow base e size v n xs) : ∃ o cap, v = .slice o n cap := by
  rcases h.2 with ⟨rfl, rfl⟩ | ⟨g, cap, cur, rfl, -⟩
  · exact ⟨_, _, rfl⟩
  · exact ⟨_, _, rfl⟩
theorem Tryz.infoTag : (Tryz.prog.info? 89).map (fun i => (i.zero, i.size, i.bytes)) = some (some (.agg #[.string ⟨#[]⟩, .string ⟨#[]⟩, .int .i64 0]), 3, 40) := by kernel_rfl
end Go.Proofs.YteicpbcddjjceaaGreatDoor
