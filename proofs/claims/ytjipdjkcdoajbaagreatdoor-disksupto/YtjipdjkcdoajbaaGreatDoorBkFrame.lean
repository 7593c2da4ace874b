/-
  PROVED HERE: the statement's own marks of lists of paths: mark, and whether two lists of texts are the same.
-/
import Derived.Test.YtjipdjkcdoajbaaGreatDoorLawCr
namespace Go.Proofs.YtjipdjkcdoajbaaGreatDoor
open Go.RowKit
theorem one_byteP (c : Nat) (hc : c < 256) (x : Int) (hx : x = (c : Int)) (wr : World) : (convert 93 9 (.slice (some ⟨wr.heap.size, 0, none⟩) 1 1)).run Tryz.prog (wr.alloc (.cells #[.int .u8 x] 5)) = .ok (.string ⟨[UInt8.ofNat c].toArray⟩) (wr.alloc (.cells #[.int .u8 x] 5)) := by
  refine run_convert_bytes_back (P := Tryz.prog) _ 93 9 5 ⟨wr.heap.size, 0, none⟩ 1 [UInt8.ofNat c] Tryz.underlying93 Tryz.underlying5 Tryz.underlying9 ?_
  intro j hj
  have hj0 : j = 0 := by simp at hj; omega
  subst hj0
  have e : (⟨wr.heap.size, 0, none⟩ : Addr).add 0 = ⟨wr.heap.size, 0, none⟩ := rfl
  rw [e, cell_of_row _ wr.heap.size 0 _ _ _ (heap_alloc_new wr (.cells #[.int .u8 x] 5))]
  have h1 : (UInt8.ofNat c).toNat = c := by simp; omega
  simp [hx, h1]
/-- The text behind t, for what is left of the number. -/
def markG (t : List UInt8) (m : Nat) : List UInt8 := if h : m = 0 then t else markG (t ++ [UInt8.ofNat (48 + m % 10)]) (m / 10)
termination_by m
decreasing_by omega
theorem markG_zero (t : List UInt8) : markG t 0 = t := by unfold markG; rw [dif_pos rfl]
/-- The text that is the n-th mark. -/
def markS (n : Nat) : ByteArray := ⟨(markG [109, 97, 114, 107] n).toArray⟩
set_option maxHeartbeats 1000000 in
set_option maxRecDepth 100000 in
theorem mark_str (z : Nat) (hz : z ≤ 1000000000) (w : World) : Calls Tryz.prog 43 #[.int .i64 ((z : Nat) : Int)] w fun e w' => e = .returned (.string (markS z)) ∧ Below w.heap.size w w' := by
  go_enter Tryz.func43, Tryz.ntmps43
  go_wp2
  go_loopw [0, 3] (fun n s wr => ∃ (m : Nat) (t : List UInt8), Hid (markG t m = markG [109, 97, 114, 107] z) ∧ t.length + m ≤ 1000000004 ∧ n = .int .i64 ((m : Nat) : Int) ∧ s = .string ⟨t.toArray⟩ ∧ Below w.heap.size w wr)
    (fun n _ _ => (intOf n).toNat)
  case atStart => exact ⟨z, [109, 97, 114, 107], hide rfl, by simp; omega, rfl, rfl, Below.refl _ _⟩
  case round =>
    obtain ⟨m, t, hg, ht, rfl, rfl, hb⟩ := hrel
    have q : ¬ 9223372036854775807 < t.length + 1 := by omega
    by_cases h9 : 0 < m
    · have hcv := one_byteP (48 + m % 10) (by omega) (48 + (m : Int) % 10) (by omega) wr
      go_wp2
      go_roundw
      case rel =>
        refine ⟨m / 10, t ++ [UInt8.ofNat (48 + m % 10)], hide ?_, by simp; omega, by go_num, ?_, hb.alloc hb.size _⟩
        · rw [← hg.out]
          conv => rhs; unfold markG
          rw [dif_neg (by omega)]
        · rw [ByteArray.mk_append_mk]; simp
      case measure => simp [intOf]; omega
    · have hm0 : m = 0 := by omega
      subst hm0
      go_wp2
      go_ret
      refine ⟨?_, hb⟩
      have := hg.out
      rw [markG_zero] at this
      show Ending.returned (.string ⟨t.toArray⟩) = _
      unfold markS
      rw [← this]
/-- Texts lie where a slice says. -/
def SsAt (w : World) (v : Value) (ps : List ByteArray) : Prop := ∃ oa c, v = .slice oa ps.length c ∧ ∀ i, i < ps.length → ∃ g o cur fr, oa = some ⟨g, o, none⟩ ∧ w.heap[g]? = some (.cells cur 9 fr) ∧ w.cell? ⟨g, o + i, none⟩ = some (.string (ps.getD i ⟨#[]⟩))
theorem SsAt.later {w w' : World} {v : Value} {ps : List ByteArray} (h : SsAt w v ps) (hb : Below w.heap.size w w') : SsAt w' v ps := by
  obtain ⟨oa, c, rfl, hk⟩ := h
  refine ⟨oa, c, rfl, fun i hi => ?_⟩
  obtain ⟨g, o, cur, fr, h1, h2, h3⟩ := hk i hi
  have hb := hb.block g (lt_heap h2)
  exact ⟨g, o, cur, fr, h1, hb.trans h2, (World.cell?_of_block (a := ⟨g, o + i, none⟩) hb).trans h3⟩
set_option maxHeartbeats 1000000 in
set_option maxRecDepth 100000 in
theorem sameS_any (u v : Value) (ps : List ByteArray) (w : World) (hu : SsAt w u ps) (hv : SsAt w v ps) (hl : ps.length ≤ 100000000) : Calls Tryz.prog 18 #[u, v] w fun e w' => e = .returned (.bool true) ∧ Below w.heap.size w w' := by
  obtain ⟨n, hn⟩ : ∃ n, n = ps.length := ⟨_, rfl⟩
  have HU := hide hu
  have HV := hide hv
  obtain ⟨oa, ca, rfl, _⟩ := hu
  obtain ⟨ob, cb, rfl, _⟩ := hv
  rw [← hn] at HU HV hl ⊢
  have HN := hide hn
  clear hn
  go_enter Tryz.func18, Tryz.ntmps18
  go_wp2_with fail
  go_loopw [5] (fun i wr => ∃ k : Nat, k ≤ n ∧ i = .int .i64 ((k : Nat) : Int) ∧ Below w.heap.size w wr) (fun i _ => n - (intOf i).toNat)
  case atStart => exact ⟨0, Nat.zero_le _, rfl, Below.refl _ _⟩
  case round =>
    obtain ⟨k, hk, rfl, hb⟩ := hrel
    have hu := HU.out.later hb
    have hv := HV.out.later hb
    have HB := hide hb
    by_cases hlt : k < n
    · obtain ⟨_, _, e1, hu⟩ := hu
      injection e1 with e1 _ _
      subst e1
      obtain ⟨_, _, e2, hv⟩ := hv
      injection e2 with e2 _ _
      subst e2
      obtain ⟨g, o, _, _, rfl, _, h1⟩ := hu k (by rw [← HN.out]; exact hlt)
      obtain ⟨g2, o2, _, _, rfl, _, h2⟩ := hv k (by rw [← HN.out]; exact hlt)
      obtain ⟨x, hx⟩ : ∃ x, x = ps.getD k ⟨#[]⟩ := ⟨_, rfl⟩
      rw [← hx] at h1 h2
      clear hu hv hb hx
      go_wp2_with fail
      go_quiet (fail)
      go_wp2_with fail
      exact ⟨⟨k + 1, hlt, by simp, HB.out.drewN _⟩, by simp only [intOf]; omega⟩
    · have hd : decide (k < n) = false := decide_eq_false hlt
      clear hu hv hb
      go_wp2_with fail
      go_ret
      exact ⟨rfl, HB.out⟩
end Go.Proofs.YtjipdjkcdoajbaaGreatDoor

/-
  PROVED HERE: the books of lists of paths, and the rows that they hold; no walk.
-/
namespace Go.Proofs.YtjipdjkcdoajbaaGreatDoor
open Go.RowKit
def strs (ps : List ByteArray) : List Value := ps.map Value.string
theorem strs_len (ps : List ByteArray) : (strs ps).length = ps.length := by simp [strs]
theorem SsAt.same {w w' : World} {v : Value} {ps : List ByteArray} (h : SsAt w v ps) (hs : ∀ k cur fr, v.ownBlock = some k → w.heap[k]? = some (.cells cur 9 fr) → w'.heap[k]? = w.heap[k]?) : SsAt w' v ps := by
  obtain ⟨oa, c, rfl, hk⟩ := h
  refine ⟨oa, c, rfl, fun i hi => ?_⟩
  obtain ⟨g, o, cur, fr, rfl, h2, h3⟩ := hk i hi
  have hb := hs g cur fr rfl h2
  exact ⟨g, o, cur, fr, rfl, hb.trans h2, (World.cell?_of_block (a := ⟨g, o + i, none⟩) hb).trans h3⟩
/-- A row of texts that one owns shows them. -/
theorem own_ss {w : World} {base : Nat} {v : Value} {ps : List ByteArray} (h : w.ownsRow base 9 1 v ps.length (strs ps)) : SsAt w v ps := by
  rcases h.2 with ⟨rfl, h0⟩ | ⟨g, cap, cur, rfl, hb, hg, hc, hm, hcs, htk⟩
  · exact ⟨none, 0, by rw [h0], fun i hi => by omega⟩
  · refine ⟨_, cap, rfl, fun i hi => ⟨g, 0, cur, _, rfl, hg, ?_⟩⟩
    rw [cell_of_row w g (0 + i) _ _ _ hg, Nat.zero_add]
    have h1 : (cur.toList.take (ps.length * 1))[i]? = (strs ps)[i]? := by rw [htk]
    rw [List.getElem?_take, if_pos (by omega), Array.getElem?_toList] at h1
    rw [h1, strs, List.getElem?_map, List.getElem?_eq_getElem hi, List.getD_eq_getElem?_getD, List.getElem?_eq_getElem hi]
    rfl
/-- A text is written over another. -/
theorem own_setS {w : World} {base g cap n k : Nat} {ps : List ByteArray} {m : ByteArray} (h : w.ownsRow base 9 1 (.slice (some ⟨g, 0, none⟩) n cap) n (strs ps)) :
    (w.setCell ⟨g, k, none⟩ (.string m)).ownsRow base 9 1 (.slice (some ⟨g, 0, none⟩) n cap) n (strs (ps.set k m)) := by
  refine ⟨?_, ?_⟩
  · have := h.1; rw [strs_len] at this ⊢; rw [List.length_set]; exact this
  · rcases h.2 with ⟨e, -⟩ | ⟨g2, cap2, cur, e, hb, hg, hc, hm, hcs, htk⟩
    · cases e
    · injection e with e1 e2 e3
      injection e1 with e1
      injection e1 with e1
      subst e1 e3
      refine .inr ⟨g, cap, cur.setIfInBounds k (.string m), rfl, hb, heap_setCell_same _ g k _ _ _ hg, hc, hm, by rw [Array.size_setIfInBounds, hcs], ?_⟩
      rw [Array.toList_setIfInBounds, List.take_set, htk]
      unfold strs
      rw [List.map_set]
/-- The first k are marks. -/
theorem marks_set (ps : List ByteArray) (m : ByteArray) (k : Nat) (hk : k < ps.length) : (List.replicate k m ++ ps.drop k).set k m = List.replicate (k + 1) m ++ ps.drop (k + 1) := by
  rw [List.set_append_right _ _ (by simp), List.length_replicate, Nat.sub_self, List.drop_eq_getElem_cons hk, List.set_cons_zero, List.replicate_succ']
  simp
/-- The slice's row is a row of texts. -/
def RowS (w : World) (v : Value) : Prop := ∀ k, v.ownBlock = some k → ∃ cur fr, w.heap[k]? = some (.cells cur 9 fr)
theorem RowS.same {w w' : World} {v : Value} (h : RowS w v) (hs : ∀ k cur fr, v.ownBlock = some k → w.heap[k]? = some (.cells cur 9 fr) → w'.heap[k]? = w.heap[k]?) : RowS w' v := fun k hk => by
  obtain ⟨cur, fr, hc⟩ := h k hk
  exact ⟨cur, fr, (hs k cur fr hk hc).trans hc⟩
theorem RowS.own {w : World} {base n : Nat} {v : Value} {xs : List Value} (h : w.ownsRow base 9 1 v n xs) : RowS w v := fun k hk => by
  obtain ⟨cur, hc⟩ := own_obj h k hk
  exact ⟨cur, _, hc⟩
structure PB where
  pv : Value
  N : Nat
  n : Nat
def PB.cells (b : PB) : List Value := [.int .i64 3, .int .i64 (b.N : Int), .slice none 0 0, .slice none 0 0, b.pv]
def pbks (N came : Nat) (kp wp av : Value) : Array Value := #[.int .i64 (N : Int), .int .i64 (came : Int), .bool false, .slice none 0 0, .slice none 0 0, .slice none 0 0, .slice none 0 0, kp, wp, av]
structure BkP (w : World) (bb N came : Nat) (kp wp av : Value) (bs : List PB) : Prop where
  blk : w.heap[bb]? = some (.cells (pbks N came kp wp av) 30 (0, 0))
  all : w.ownsRow bb 82 5 av bs.length (bs.flatMap PB.cells)
  mkd : ∀ e ∈ bs, SsAt w e.pv (List.replicate e.n (markS e.N)) ∧ e.N ≤ N ∧ e.n ≤ 100000010
  row : ∀ e ∈ bs, RowS w e.pv
/-- The books stay where their blocks do. -/
theorem BkP.same {w w' : World} {bb N came : Nat} {kp wp av : Value} {bs : List PB} (h : BkP w bb N came kp wp av bs) (h0 : w'.heap[bb]? = w.heap[bb]?) (ha : ∀ k, av.ownBlock = some k → w'.heap[k]? = w.heap[k]?)
    (ht : ∀ e ∈ bs, ∀ k cur fr, e.pv.ownBlock = some k → w.heap[k]? = some (.cells cur 9 fr) → w'.heap[k]? = w.heap[k]?) : BkP w' bb N came kp wp av bs :=
  ⟨h0.trans h.blk, own_same h.all (fun k hk _ => ha k hk), fun e he => ⟨(h.mkd e he).1.same (ht e he), (h.mkd e he).2⟩, fun e he => (h.row e he).same (ht e he)⟩
theorem BkP.later {w w' : World} {bb N came : Nat} {kp wp av : Value} {bs : List PB} (h : BkP w bb N came kp wp av bs) (hb : Below w.heap.size w w') : BkP w' bb N came kp wp av bs :=
  h.same (hb.block _ (lt_of_row h.blk)) (fun k hk => by obtain ⟨cur, hc⟩ := own_obj h.all k hk; exact hb.block k (lt_heap hc)) (fun _ _ k _ _ _ hc => hb.block k (lt_heap hc))
theorem BkP.setN {w : World} {bb N came : Nat} {kp wp av : Value} {bs : List PB} (h : BkP w bb N came kp wp av bs) {N' : Nat} (hN : N ≤ N') : BkP (w.setCell ⟨bb, 0, none⟩ (.int .i64 (N' : Int))) bb N' came kp wp av bs := by
  have hset : ∀ k, k ≠ bb → (w.setCell ⟨bb, 0, none⟩ (.int .i64 (N' : Int))).heap[k]? = w.heap[k]? := fun k hk => heap_setCell_other _ _ _ _ (by simpa using hk)
  refine ⟨?_, own_same h.all (fun k hk _ => hset k ?_), fun e he => ⟨(h.mkd e he).1.same (fun k cur fr _ hc => hset k (type_ne hc h.blk (by decide))), Nat.le_trans (h.mkd e he).2.1 hN, (h.mkd e he).2.2⟩, fun e he => (h.row e he).same (fun k cur fr _ hc => hset k (type_ne hc h.blk (by decide)))⟩
  · rw [heap_setCell_same _ bb 0 _ _ _ h.blk]; rfl
  · obtain ⟨cur, hc⟩ := own_obj h.all k hk
    exact type_ne hc h.blk (by decide)
end Go.Proofs.YtjipdjkcdoajbaaGreatDoor

/-
  PROVED HERE: what the statement's function markP holds from round to round; no walk.
-/
namespace Go.Proofs.YtjipdjkcdoajbaaGreatDoor
open Go.RowKit
def pS (bb : Nat) (lv av : Value) (k : Nat) : Prop := k = bb ∨ lv.ownBlock = some k ∨ av.ownBlock = some k
/-- Behind k elements. -/
structure MFP (w wr : World) (bb N came : Nat) (kp wp av lv : Value) (bs : List PB) (n : Nat) (ps : List ByteArray) (k : Nat) : Prop where
  bk : BkP wr bb N came kp wp av bs
  lst : wr.ownsRow 0 9 1 lv n (strs (List.replicate k (markS N) ++ ps.drop k))
  gr : Gr (pS bb lv av) w wr
theorem MFP.start {w w1 : World} {bb N came n : Nat} {kp wp av lv : Value} {bs : List PB} {ps : List ByteArray} (h : BkP w bb N came kp wp av bs) (hl : w.ownsRow 0 9 1 lv n (strs ps)) (hb : Below (w.setCell ⟨bb, 0, none⟩ (.int .i64 ((N + 1 : Nat) : Int))).heap.size (w.setCell ⟨bb, 0, none⟩ (.int .i64 ((N + 1 : Nat) : Int))) w1) :
    MFP w w1 bb (N + 1) came kp wp av lv bs n ps 0 := by
  refine ⟨(h.setN (Nat.le_succ N)).later hb, ?_, (Gr.of_grownBy (grownBy_set w bb 0 _) (.inl rfl)).trans (Gr.of_below hb)⟩
  refine ownsRow_later (own_same hl (fun k hk _ => heap_setCell_other _ _ _ _ ?_)) hb
  obtain ⟨cur, hc⟩ := own_obj hl k hk
  simpa using type_ne hc h.blk (by decide)
theorem MFP.step {w wr : World} {bb N came n g cap k : Nat} {kp wp av : Value} {bs : List PB} {ps : List ByteArray} (h : MFP w wr bb N came kp wp av (.slice (some ⟨g, 0, none⟩) n cap) bs n ps k) (hp : ps.length = n) (hk : k < n) (d3 : ∀ e ∈ bs, e.pv.ownBlock ≠ some g) :
    MFP w (wr.setCell ⟨g, k, none⟩ (.string (markS N))) bb N came kp wp av (.slice (some ⟨g, 0, none⟩) n cap) bs n ps (k + 1) := by
  obtain ⟨cur, hc⟩ := own_obj h.lst g rfl
  have hset : ∀ q, q ≠ g → (wr.setCell ⟨g, k, none⟩ (.string (markS N))).heap[q]? = wr.heap[q]? := fun q hq => heap_setCell_other _ _ _ _ (by simpa using hq)
  refine ⟨h.bk.same (hset bb (Ne.symm (type_ne hc h.bk.blk (by decide)))) (fun q hq => hset q ?_) (fun e he q _ _ hq _ => hset q (fun e2 => d3 e he (by rw [← e2]; exact hq))), ?_, h.gr.trans (Gr.of_grownBy (grownBy_set wr g k _) (.inr (.inl rfl)))⟩
  · obtain ⟨cur2, hc2⟩ := own_obj h.bk.all q hq
    exact type_ne hc2 hc (by decide)
  · have h2 := own_setS (m := markS N) (k := k) h.lst
    rwa [marks_set ps (markS N) k (by omega)] at h2
/-- While the list grows. -/
structure MGP (w wr : World) (bb N came : Nat) (kp wp av lv : Value) (bs : List PB) (p : Nat) (lc ac : Value) (bk : List PB) : Prop where
  bks : BkP wr bb N came kp wp ac (bs ++ bk)
  lst : wr.ownsRow 0 9 1 lc p (strs (List.replicate p (markS N)))
  na : NewOr w av ac
  nl : NewOr w lv lc
  each : ∀ e ∈ bk, NewOr w lv e.pv ∧ e.N = N ∧ e.n ≤ p ∧ (e.pv = .slice none 0 0 ∨ ∃ g c, e.pv = .slice (some ⟨g, 0, none⟩) e.n c)
  l3 : ∀ e ∈ bs, ∀ q, lc.ownBlock = some q → e.pv.ownBlock ≠ some q
  gr : Gr (pS bb lv av) w wr
theorem MGP.start {w wr : World} {bb N came n : Nat} {kp wp av lv : Value} {bs : List PB} {ps : List ByteArray} (h : MFP w wr bb N came kp wp av lv bs n ps n) (hp : ps.length = n) (d3 : ∀ e ∈ bs, ∀ q, lv.ownBlock = some q → e.pv.ownBlock ≠ some q) : MGP w wr bb N came kp wp av lv bs n lv av [] := by
  refine ⟨by rw [List.append_nil]; exact h.bk, ?_, .inl rfl, .inl rfl, (fun e he => by cases he), d3, h.gr⟩
  have h1 := h.lst
  rwa [List.drop_eq_nil_of_le (by omega), List.append_nil] at h1
theorem not_newOr {w : World} {v v' : Value} (h : NewOr w v v') {k : Nat} (hk : k < w.heap.size) (hv : v.ownBlock ≠ some k) : v'.ownBlock ≠ some k := by
  rcases h with h | h
  · rw [h]; exact hv
  · intro e; have := h k e; omega
theorem own_form {w : World} {base n : Nat} {v : Value} {xs : List Value} (h : w.ownsRow base 9 1 v n xs) : v = .slice none 0 0 ∨ ∃ g c, v = .slice (some ⟨g, 0, none⟩) n c := by
  rcases h.2 with ⟨rfl, _⟩ | ⟨g, cap, cur, rfl, _⟩
  · exact .inl rfl
  · exact .inr ⟨g, cap, rfl⟩
/-- A book more. -/
theorem MGP.book {w wr X w5 : World} {bb N came p g2 cap2 M : Nat} {kp wp av lv lc ac : Value} {bs bk : List PB} (h : MGP w wr bb N came kp wp av lv bs p lc ac bk) (hp : p ≤ 100000010) (hM : (bs ++ bk).length = M) (hX : Below wr.heap.size wr X) (hgrow : X.grownBy w5 ac.ownBlock)
    (hown5 : w5.ownsRow bb 82 5 (.slice (some ⟨g2, 0, none⟩) (M + 1) cap2) (M + 1) ((bs ++ bk).flatMap PB.cells ++ (⟨lc, N, p⟩ : PB).cells)) (hat : ac.ownBlock = some g2 ∨ wr.heap.size ≤ g2) :
    MGP w (w5.setCell ⟨bb, 9, none⟩ (.slice (some ⟨g2, 0, none⟩) (M + 1) cap2)) bb N came kp wp av lv bs p lc (.slice (some ⟨g2, 0, none⟩) (M + 1) cap2) (bk ++ [⟨lc, N, p⟩]) := by
  have hbl := lt_of_row h.bks.blk
  have hl5 : ∀ q, q < wr.heap.size → ac.ownBlock ≠ some q → w5.heap[q]? = wr.heap[q]? := fun q hq hne => (hgrow.block q (Nat.lt_of_lt_of_le hq hX.size) (fun e => hne e.symm)).trans (hX.block q hq)
  have hty : ∀ (q : Nat) (cur : Array Value) (T : TypeId) (fr : Nat × Nat), wr.heap[q]? = some (.cells cur T fr) → T ≠ 82 → w5.heap[q]? = wr.heap[q]? := fun q cur T fr hc hT => hl5 q (lt_heap hc) (fun e => by
    obtain ⟨cur2, hc2⟩ := own_obj h.bks.all q e
    exact type_ne hc hc2 hT rfl)
  have sb := (hty bb _ _ _ h.bks.blk (by decide)).trans h.bks.blk
  have hset : ∀ q, q ≠ bb → (w5.setCell ⟨bb, 9, none⟩ (.slice (some ⟨g2, 0, none⟩) (M + 1) cap2)).heap[q]? = w5.heap[q]? := fun q hq => heap_setCell_other _ _ _ _ (by simpa using hq)
  have hstr : ∀ (q : Nat) (cur : Array Value) (fr : Nat × Nat), wr.heap[q]? = some (.cells cur 9 fr) → (w5.setCell ⟨bb, 9, none⟩ (.slice (some ⟨g2, 0, none⟩) (M + 1) cap2)).heap[q]? = wr.heap[q]? := fun q cur fr hc => (hset q (type_ne hc h.bks.blk (by decide))).trans (hty q cur _ fr hc (by decide))
  have hlst : (w5.setCell ⟨bb, 9, none⟩ (.slice (some ⟨g2, 0, none⟩) (M + 1) cap2)).ownsRow 0 9 1 lc p (strs (List.replicate p (markS N))) := own_same h.lst (fun q hq _ => by
    obtain ⟨cur, hc⟩ := own_obj h.lst q hq
    exact hstr q cur _ hc)
  refine ⟨⟨?_, ?_, fun e he => ?_, fun e he => ?_⟩, hlst, ?_, h.nl, fun e he => ?_, h.l3, ?_⟩
  · rw [heap_setCell_same _ bb 9 _ _ _ sb]; rfl
  · rw [← List.append_assoc]
    have h1 : w5.ownsRow bb 82 5 (.slice (some ⟨g2, 0, none⟩) (M + 1) cap2) ((bs ++ bk) ++ [(⟨lc, N, p⟩ : PB)]).length (((bs ++ bk) ++ [(⟨lc, N, p⟩ : PB)]).flatMap PB.cells) := by
      rw [List.length_append, List.length_singleton, hM, List.flatMap_append, show [(⟨lc, N, p⟩ : PB)].flatMap PB.cells = (⟨lc, N, p⟩ : PB).cells from by simp]
      exact hown5
    exact own_same h1 (fun q hq _ => hset q (by obtain ⟨cur, hc⟩ := own_obj h1 q hq; exact type_ne hc sb (by decide)))
  · rw [← List.append_assoc] at he
    rcases List.mem_append.1 he with he | he
    · obtain ⟨h1, h2⟩ := h.bks.mkd e he
      exact ⟨h1.same (fun q cur fr _ hc => hstr q cur fr hc), h2⟩
    · rw [List.mem_singleton.1 he]
      refine ⟨own_ss (base := 0) ?_, Nat.le_refl _, hp⟩
      rw [List.length_replicate]
      exact hlst
  · rw [← List.append_assoc] at he
    rcases List.mem_append.1 he with he | he
    · exact (h.bks.row e he).same (fun q cur fr _ hc => hstr q cur fr hc)
    · rw [List.mem_singleton.1 he]
      exact RowS.own hlst
  · rcases hat with h1 | h1
    · rcases h.na with h2 | h2
      · exact .inl (by rw [← h2, h1]; rfl)
      · exact .inr (fun k hk => h2 k (by rw [h1]; exact hk))
    · refine .inr (fun k hk => ?_)
      have hk : g2 = k := by simpa [Value.ownBlock] using hk
      have := h.gr.size
      omega
  · rcases List.mem_append.1 he with he | he
    · exact h.each e he
    · rw [List.mem_singleton.1 he]
      exact ⟨h.nl, rfl, Nat.le_refl _, own_form h.lst⟩
  · refine ⟨hgrow.os.trans (hX.os.trans h.gr.os), hgrow.tape.trans (hX.tape.trans h.gr.tape), hgrow.output.trans (hX.output.trans h.gr.output), Nat.le_trans h.gr.size (Nat.le_trans hX.size (Nat.le_trans hgrow.size (grownBy_set w5 bb 9 _).size)), fun q hq hn => ?_⟩
    exact (hset q (fun e => hn (.inl e))).trans ((hl5 q (Nat.lt_of_lt_of_le hq h.gr.size) (not_newOr h.na hq (fun e => hn (.inr (.inr e))))).trans (h.gr.block q hq hn))
/-- The list has grown. -/
theorem MGP.grow {w wr X w7 : World} {bb N came p : Nat} {kp wp av lv lc ac v7 : Value} {bs bk : List PB} (h : MGP w wr bb N came kp wp av lv bs p lc ac bk) (hX : Below wr.heap.size wr X) (ho : w7.ownsRow 0 9 1 v7 (p + 1) (strs (List.replicate p (markS N)) ++ [.string (markS N)])) (hgrow : X.grownBy w7 lc.ownBlock)
    (hkeep : ∀ g j, lc.ownBlock = some g → j < p * 1 → w7.cell? ⟨g, j, none⟩ = X.cell? ⟨g, j, none⟩) (hno : NewOr X lc v7) (hrow : ∀ g, lc.ownBlock = some g → ∃ cur fr, w7.heap[g]? = some (.cells cur 9 fr)) :
    MGP w w7 bb N came kp wp av lv bs (p + 1) v7 ac bk := by
  have hl7 : ∀ q, q < wr.heap.size → lc.ownBlock ≠ some q → w7.heap[q]? = wr.heap[q]? := fun q hq hne => (hgrow.block q (Nat.lt_of_lt_of_le hq hX.size) (fun e => hne e.symm)).trans (hX.block q hq)
  have hty : ∀ (q : Nat) (cur : Array Value) (T : TypeId) (fr : Nat × Nat), wr.heap[q]? = some (.cells cur T fr) → T ≠ 9 → w7.heap[q]? = wr.heap[q]? := fun q cur T fr hc hT => hl7 q (lt_heap hc) (fun e => by
    obtain ⟨cur2, hc2⟩ := own_obj h.lst q e
    exact type_ne hc hc2 hT rfl)
  have hv7 : ∀ q, v7.ownBlock = some q → lc.ownBlock = some q ∨ wr.heap.size ≤ q := fun q hq => hno.elim (fun e => .inl (by rw [← e]; exact hq)) (fun e => .inr (Nat.le_trans hX.size (e q hq)))
  refine ⟨⟨(hty bb _ _ _ h.bks.blk (by decide)).trans h.bks.blk, own_same h.bks.all (fun q hq _ => by obtain ⟨cur, hc⟩ := own_obj h.bks.all q hq; exact hty q cur _ _ hc (by decide)), fun e he => ?_, fun e he q hq => ?_⟩, ?_, h.na, ?_, fun e he => ?_, fun e he q hq => ?_, ?_⟩
  · obtain ⟨h1, h2⟩ := h.bks.mkd e he
    refine ⟨?_, h2⟩
    rcases List.mem_append.1 he with he | he
    · exact h1.same (fun q cur fr hq hc => hl7 q (lt_heap hc) (fun e2 => h.l3 e he q e2 hq))
    · obtain ⟨_, _, hle, hform⟩ := h.each e he
      by_cases hs : ∃ g, lc.ownBlock = some g ∧ e.pv.ownBlock = some g
      · obtain ⟨g, hg1, hg2⟩ := hs
        rcases hform with hf | ⟨g3, c3, hf⟩
        · rw [hf] at hg2; cases hg2
        · rw [hf] at hg2 h1 ⊢
          have hg3 : g3 = g := by simpa [Value.ownBlock] using hg2
          subst hg3
          obtain ⟨cur, fr, hc⟩ := hrow g3 hg1
          obtain ⟨cur0, hc0⟩ := own_obj h.lst g3 hg1
          obtain ⟨oa, c, hv, hk⟩ := h1
          injection hv with hv1 hv2 hv3
          subst hv1
          refine ⟨_, c3, by rw [List.length_replicate], fun i hi => ⟨g3, 0, cur, fr, rfl, hc, ?_⟩⟩
          obtain ⟨g4, o4, _, _, e4, _, h5⟩ := hk i hi
          injection e4 with e4
          injection e4 with e4 e5
          subst e4 e5
          rw [List.length_replicate] at hi
          rw [hkeep g3 (0 + i) hg1 (by omega)]
          exact (World.cell?_of_block (a := ⟨g3, 0 + i, none⟩) (hX.block g3 (lt_heap hc0))).trans h5
      · exact h1.same (fun q cur fr hq hc => hl7 q (lt_heap hc) (fun e2 => hs ⟨q, e2, hq⟩))
  · obtain ⟨cur, fr, hc⟩ := h.bks.row e he q hq
    by_cases hs : lc.ownBlock = some q
    · exact hrow q hs
    · exact ⟨cur, fr, (hl7 q (lt_heap hc) hs).trans hc⟩
  · rw [List.replicate_succ']
    unfold strs at ho ⊢
    rw [List.map_append]
    exact ho
  · rcases h.nl with h1 | h1
    · rcases hno with h2 | h2
      · exact .inl (h2.trans h1)
      · exact .inr (fun k hk => Nat.le_trans h.gr.size (Nat.le_trans hX.size (h2 k hk)))
    · refine .inr (fun k hk => ?_)
      rcases hv7 k hk with h2 | h2
      · exact h1 k h2
      · exact Nat.le_trans h.gr.size h2
  · obtain ⟨h1, h2, h3, h4⟩ := h.each e he
    exact ⟨h1, h2, Nat.le_succ_of_le h3, h4⟩
  · rcases hv7 q hq with h2 | h2
    · exact h.l3 e he q h2
    · intro e2
      obtain ⟨cur, fr, hc⟩ := h.bks.row e (List.mem_append_left _ he) q e2
      have := lt_heap hc
      omega
  · refine ⟨hgrow.os.trans (hX.os.trans h.gr.os), hgrow.tape.trans (hX.tape.trans h.gr.tape), hgrow.output.trans (hX.output.trans h.gr.output), Nat.le_trans h.gr.size (Nat.le_trans hX.size hgrow.size), fun q hq hn => ?_⟩
    exact (hl7 q (Nat.lt_of_lt_of_le hq h.gr.size) (not_newOr h.nl hq (fun e => hn (.inr (.inl e))))).trans (h.gr.block q hq hn)
end Go.Proofs.YtjipdjkcdoajbaaGreatDoor
