/-
  PROVED HERE: what the program's function entry of the index's reader answers, or at which place it gives up.
-/
import Derived.Test.YtpgamoielkpakaaEntryC
namespace Go.Proofs.Ytpgamoielkpakaa
open Go.RowKit
def entryS (t : ByteArray) (k p : Nat) (last : ByteArray) (a : Nat) : RS En := entryG (nextS t) k p last a
theorem alloc6 (w W : World) (o0 o1 o2 o3 o4 o5 : Obj) (hW : W = (((((w.alloc o0).alloc o1).alloc o2).alloc o3).alloc o4).alloc o5) :
    W.heap.size = w.heap.size + 6 ∧ W.heap[w.heap.size]? = some o0 ∧ W.heap[w.heap.size + 1 + 1]? = some o2 ∧ W.heap[w.heap.size + 1 + 1 + 1]? = some o3 ∧ W.heap[w.heap.size + 1 + 1 + 1 + 1]? = some o4 ∧ W.heap[w.heap.size + 1 + 1 + 1 + 1 + 1]? = some o5 ∧ Below w.heap.size w W := by
  subst hW
  refine ⟨by simp, ?_, ?_, ?_, ?_, ?_, ?_⟩
  · exact (Below.heap_alloc _ _ _ (by simp; omega)).trans ((Below.heap_alloc _ _ _ (by simp; omega)).trans ((Below.heap_alloc _ _ _ (by simp; omega)).trans ((Below.heap_alloc _ _ _ (by simp; omega)).trans ((Below.heap_alloc _ _ _ (by simp)).trans (heap_alloc_new _ _)))))
  · have h := heap_alloc_new ((w.alloc o0).alloc o1) o2
    simp only [size_alloc] at h
    exact (Below.heap_alloc _ _ _ (by simp only [size_alloc]; omega)).trans ((Below.heap_alloc _ _ _ (by simp only [size_alloc]; omega)).trans ((Below.heap_alloc _ _ _ (by simp)).trans h))
  · have h := heap_alloc_new (((w.alloc o0).alloc o1).alloc o2) o3
    simp only [size_alloc] at h
    exact (Below.heap_alloc _ _ _ (by simp only [size_alloc]; omega)).trans ((Below.heap_alloc _ _ _ (by simp)).trans h)
  · have h := heap_alloc_new ((((w.alloc o0).alloc o1).alloc o2).alloc o3) o4
    simp only [size_alloc] at h
    exact (Below.heap_alloc _ _ _ (by simp)).trans h
  · have h := heap_alloc_new (((((w.alloc o0).alloc o1).alloc o2).alloc o3).alloc o4) o5
    simp only [size_alloc] at h
    exact h
  · exact ((((((Below.refl _ _).alloc (Nat.le_refl _) _).alloc (by simp) _).alloc (by simp; omega) _).alloc (by simp; omega) _).alloc (by simp; omega) _).alloc (by simp; omega) _
theorem Gr.after_below {S S2 : Nat → Prop} {w W W1 : World} (h1 : Below w.heap.size w W) (h2 : Gr S2 W W1) (hS : ∀ k, k < w.heap.size → S2 k → S k) : Gr S w W1 :=
  ⟨h2.os.trans h1.os, h2.tape.trans h1.tape, h2.output.trans h1.output, Nat.le_trans h1.size h2.size, fun k hk hn => (h2.block k (Nat.lt_of_lt_of_le hk h1.size) fun h => hn (hS k hk h)).trans (h1.block k hk)⟩
theorem rd_nil : rd ⟨#[]⟩ = Sha.zeros 32 := by decide +kernel
theorem rd_nil_cells : ecellsOf ⟨#[]⟩ (rd ⟨#[]⟩) 0 = ecellsOf ⟨#[]⟩ (Sha.zeros 32) 0 := by rw [rd_nil]
set_option maxHeartbeats 1000000 in
set_option maxRecDepth 100000 in
theorem entry_core (b a k0 p0 : Nat) (n0 : Int) (s0 t last : ByteArray) (w : World) (hs : ScIs w b t a) (ha : a ≤ t.size) (ht : t.size ≤ 2000) :
    Calls Try.prog 45 #[.pointer (some ⟨b, 0, none⟩), tokV k0 p0 n0 s0, .string last] w fun e w' => Gr (fun k => k = b) w w' ∧
      ((∃ e1 c, entryS t k0 p0 last a = .ok e1 c ∧ e = .returned (.agg (ecellsOf e1.name (rd e1.dig) e1.size)) ∧ ScIs w' b t c ∧ c ≤ t.size) ∨ (∃ p, entryS t k0 p0 last a = .bad p ∧ e = gaveUp p)) := by
  have HS := hide hs
  have hbl := lt_heap hs
  clear hs
  have hz71 := (zero_of_info Try.info71b).1
  unfold tokV
  go_enter Try.func45, Try.ntmps45
  go_wp2_with fail
  obtain ⟨W, hW⟩ : ∃ W, W = (((((w.alloc (.cells #[.pointer (some ⟨b, 0, none⟩)] 64)).alloc (.cells #[.int .u8 ((k0 : Nat) : Int), .int .i64 ((p0 : Nat) : Int), .int .i64 n0, .string s0] 69)).alloc (.cells #[.string last] 9)).alloc (.cells (ecellsOf ⟨#[]⟩ (Sha.zeros 32) 0) 76)).alloc (.cells (ecellsOf ⟨#[]⟩ (Sha.zeros 32) 0) 76)).alloc (.cells #[.string ⟨#[116, 97, 103]⟩, .string ⟨#[100, 105, 103, 101, 115, 116]⟩, .string ⟨#[115, 105, 122, 101]⟩] 9) := ⟨_, rfl⟩
  rw [← hW]
  obtain ⟨hz, h0, h2, h3, h4, h5, hB⟩ := alloc6 _ _ _ _ _ _ _ _ hW
  clear hW
  have hsW : ScIs W b t a := HS.out.later hB
  have hR : EnAt w.heap.size (w.heap.size + 1 + 1) (w.heap.size + 1 + 1 + 1 + 1) b last En0 W := ⟨h0, h2, by rw [h4]; unfold En0; rw [show ((0 : Nat) : Int) = 0 from rfl, rd_nil_cells]⟩
  have hn : ∀ j, j < [sTag, sDigest, sSize].length → W.cell? ⟨w.heap.size + 1 + 1 + 1 + 1 + 1, j, none⟩ = some (.string ([sTag, sDigest, sSize].getD j ByteArray.empty)) := by
    intro j hj
    rw [cell_of_row W _ j _ _ _ h5]
    match j, hj with
    | 0, _ => rfl
    | 1, _ => rfl
    | 2, _ => rfl
  have HR3 := hide h3
  have HBB := hide hB
  have HSW := hide hsW
  have HRR := hide hR
  have HNN := hide hn
  clear h0 h2 h3 h4 h5 hB hsW hR hn
  by_cases hk : k0 = 123
  · subst hk
    have hent : entryS t 123 p0 last a = objS (entS t last) t true 3 [sTag, sDigest, sSize] En0 a := by
      unfold entryS entryG objS
      rw [if_pos rfl]
      rfl
    have HENT := hide hent
    clear hent
    have hcall := object_ok (entS t last) b (w.heap.size + 1 + 1 + 1 + 1 + 1) 52 [sTag, sDigest, sSize] #[.pointer (some ⟨w.heap.size, 0, none⟩), .pointer (some ⟨w.heap.size + 1 + 1, 0, none⟩), .pointer (some ⟨w.heap.size + 1 + 1 + 1 + 1, 0, none⟩)] t a p0 n0 s0 W (fun k => k = b ∨ k = w.heap.size + 1 + 1 + 1 + 1) (EnAt w.heap.size (w.heap.size + 1 + 1) (w.heap.size + 1 + 1 + 1 + 1) b last) En0
      (enters_of Try.func52 (by kernel_rfl) rfl) HSW.out ha ht (Or.inl rfl) (by intro k hk; rcases hk with rfl | rfl <;> omega) HRR.out (by decide) HNN.out
      (fun st V V' hV hsz hg => ⟨(hg.block _ (by omega) (by intro h; rcases h with h | ⟨h, _⟩ <;> omega)).trans hV.1, (hg.block _ (by omega) (by intro h; rcases h with h | ⟨h, _⟩ <;> omega)).trans hV.2.1, (hg.block _ (by omega) (by intro h; rcases h with h | ⟨h, _⟩ <;> omega)).trans hV.2.2⟩)
      (fun x st c V hV hsz hsc hc => entryC_any _ _ _ b c t last x st V (by omega) hsc hc ht hV)
    simp only [tokV, List.length_cons, List.length_nil, Nat.zero_add, Nat.reduceAdd] at hcall
    refine hcall.mono ?_
    rintro e w1 ⟨hg1, (⟨e1, c, ho, rfl, hsc1, hc1, hR1⟩ | ⟨p, ho, rfl⟩)⟩
    · dsimp only
      have hr4 := hR1.2.2
      have hr3 : w1.heap[w.heap.size + 1 + 1 + 1]? = some (.cells (ecellsOf ⟨#[]⟩ (Sha.zeros 32) 0) 76 (0, 0)) := (hg1.block _ (by omega) (by intro h; rcases h with h | h <;> omega)).trans HR3.out
      have hgw : Gr (fun k => k = b) w w1 := Gr.after_below HBB.out hg1 (by intro k hk h; rcases h with h | h <;> omega)
      have HGW := hide hgw
      have HSC1 := hide hsc1
      have HO := hide ho
      have hl := rd_len e1.dig
      clear hgw hsc1 ho hg1 hR1 hcall
      generalize hds : rd e1.dig = ds at hr4 hl ⊢
      have HDS := hide hds
      clear hds
      go_wp2_with (first | (refine wpList_load_row rfl 76 _ rfl (w.heap.size + 1 + 1 + 1 + 1) rfl 76 _ _ _ hr4 Try.underlying76 rfl (size71 _ _ _ hl) ?_) | (refine wpList_store_row rfl 76 _ _ rfl (w.heap.size + 1 + 1 + 1) _ rfl rfl 76 _ hr3 (size71 _ _ _ hl) (by rw [ecellsOf_size _ _ _ hl, ecellsOf_size _ _ _ (Sha.zeros_len 32)]) (by rw [Array.all_eq_true_iff_forall_mem]; intro u hu; exact ecellsOf_one _ _ _ u (by simpa using hu)) ?_))
      have hb2 : Below w.heap.size w1 (w1.setRow (w.heap.size + 1 + 1 + 1) (ecellsOf e1.name ds e1.size)) := (Below.refl _ _).setRow (by omega) _
      refine bodyPost_ret (results_cell_row Try.results45 _ _ (w.heap.size + 1 + 1 + 1) 76 _ (0, 0) _ rfl (setRow_heap _ _ _ _ _ _ hr3) Try.underlying76 rfl (size71 _ _ _ hl)) rfl ⟨grow_then HGW.out hb2, Or.inl ⟨e1, c, ?_, ?_, ?_, hc1⟩⟩
      · rw [HENT.out, HO.out]
      · rw [HDS.out]
      · exact (hb2.block b hbl).trans HSC1.out
    · dsimp only [gaveUp]
      exact ⟨rfl, Gr.after_below HBB.out hg1 (by intro k hk h; rcases h with h | h <;> omega), Or.inr ⟨p, by rw [HENT.out, ho], rfl⟩⟩
  · have hent : entryS t k0 p0 last a = .bad p0 := by
      unfold entryS entryG
      rw [if_neg hk]
    have hcall := object_bad b (w.heap.size + 1 + 1 + 1 + 1 + 1) 52 3 3 #[.pointer (some ⟨w.heap.size, 0, none⟩), .pointer (some ⟨w.heap.size + 1 + 1, 0, none⟩), .pointer (some ⟨w.heap.size + 1 + 1 + 1 + 1, 0, none⟩)] k0 p0 n0 s0 W (fun k => k = b) hk
    simp only [tokV] at hcall
    refine hcall.mono ?_
    rintro e w1 ⟨hg1, rfl⟩
    dsimp only [gaveUp]
    exact ⟨rfl, Gr.after_below HBB.out hg1 (fun k _ h => h), Or.inr ⟨p0, hent, rfl⟩⟩
end Go.Proofs.Ytpgamoielkpakaa
