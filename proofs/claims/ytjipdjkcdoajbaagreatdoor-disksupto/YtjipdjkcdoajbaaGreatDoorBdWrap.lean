/-
  PROVED HERE: the program's entry points on disks (package blobs): each asks the disk within, and gives the refusal's number.
-/
import Derived.Test.YtjipdjkcdoajbaaGreatDoorPdCopyW
import Derived.Test.YtjipdjkcdoajbaaGreatDoorPdList
import Derived.Test.YtjipdjkcdoajbaaGreatDoorPdUsed
namespace Go.Proofs.YtjipdjkcdoajbaaGreatDoor
open Go.RowKit
def WRet (s : PSt) (w : World) (k : Int) (P : PSt → Prop) (e : Ending) (w' : World) : Prop := e = .returned (.int .i64 k) ∧ (k ≠ 0 → Below w.heap.size w w') ∧ (k = 0 → ∃ s1, PGo s s1 w w' ∧ P s1)
/-- The block that an entry point holds: the disk within. -/
def BD (w : World) (d b : Nat) : Prop := w.heap[d]? = some (.cells #[.pointer (some ⟨b, 0, none⟩)] 53 (0, 0))
set_option maxHeartbeats 1000000 in
set_option maxRecDepth 100000 in
theorem wAppend (s : PSt) (d : Nat) (p : ByteArray) (t : ByteArray) (w : World) (k : Int) (P : PSt → Prop) (hd : BD w d s.b) (hg : w.cell? ⟨0, 0, none⟩ = some errT)
    (h : Calls Tryz.prog 54 #[.pointer (some ⟨s.b, 0, none⟩), .string p, .string t] w fun e w' => ∃ v, e = .returned v ∧ PRet s w k P v w') :
    Calls Tryz.prog 24 #[.pointer (some ⟨d, 0, none⟩), .string p, .string t] w (WRet s w k P) := by
  have H := hide h
  have HG := hide hg
  have c0 : w.cell? ⟨d, 0, none⟩ = some (.pointer (some ⟨s.b, 0, none⟩)) := cell_of_row _ _ 0 _ _ _ hd
  clear h hg hd
  go_enter Tryz.func24, Tryz.ntmps24
  go_wp2_with fail
  refine H.out.mono ?_
  rintro _ w1 ⟨v, rfl, hr⟩
  dsimp only
  have HR := hide (errno_ret hr HG.out)
  clear hr
  go_wp2_with fail
  refine HR.out.mono ?_
  rintro _ w2 ⟨rfl, hp⟩
  dsimp only
  have HP := hide hp
  clear hp
  go_wp2_with fail
  go_ret
  exact ⟨rfl, HP.out⟩
theorem wAppend_nil (p : ByteArray) (t : ByteArray) (w : World) : Calls Tryz.prog 24 #[.pointer none, .string p, .string t] w fun e w' => e = .returned (.int .i64 1) ∧ w' = w := by
  go_enter Tryz.func24, Tryz.ntmps24
  go_wp2_with fail
  go_ret
  exact ⟨rfl, rfl⟩
set_option maxHeartbeats 1000000 in
set_option maxRecDepth 100000 in
theorem wRename (s : PSt) (d : Nat) (p : ByteArray) (q : ByteArray) (w : World) (k : Int) (P : PSt → Prop) (hd : BD w d s.b) (hg : w.cell? ⟨0, 0, none⟩ = some errT)
    (h : Calls Tryz.prog 59 #[.pointer (some ⟨s.b, 0, none⟩), .string p, .string q] w fun e w' => ∃ v, e = .returned v ∧ PRet s w k P v w') :
    Calls Tryz.prog 26 #[.pointer (some ⟨d, 0, none⟩), .string p, .string q] w (WRet s w k P) := by
  have H := hide h
  have HG := hide hg
  have c0 : w.cell? ⟨d, 0, none⟩ = some (.pointer (some ⟨s.b, 0, none⟩)) := cell_of_row _ _ 0 _ _ _ hd
  clear h hg hd
  go_enter Tryz.func26, Tryz.ntmps26
  go_wp2_with fail
  refine H.out.mono ?_
  rintro _ w1 ⟨v, rfl, hr⟩
  dsimp only
  have HR := hide (errno_ret hr HG.out)
  clear hr
  go_wp2_with fail
  refine HR.out.mono ?_
  rintro _ w2 ⟨rfl, hp⟩
  dsimp only
  have HP := hide hp
  clear hp
  go_wp2_with fail
  go_ret
  exact ⟨rfl, HP.out⟩
theorem wRename_nil (p : ByteArray) (q : ByteArray) (w : World) : Calls Tryz.prog 26 #[.pointer none, .string p, .string q] w fun e w' => e = .returned (.int .i64 1) ∧ w' = w := by
  go_enter Tryz.func26, Tryz.ntmps26
  go_wp2_with fail
  go_ret
  exact ⟨rfl, rfl⟩
set_option maxHeartbeats 1000000 in
set_option maxRecDepth 100000 in
theorem wRemove (s : PSt) (d : Nat) (p : ByteArray) (w : World) (k : Int) (P : PSt → Prop) (hd : BD w d s.b) (hg : w.cell? ⟨0, 0, none⟩ = some errT)
    (h : Calls Tryz.prog 60 #[.pointer (some ⟨s.b, 0, none⟩), .string p] w fun e w' => ∃ v, e = .returned v ∧ PRet s w k P v w') :
    Calls Tryz.prog 28 #[.pointer (some ⟨d, 0, none⟩), .string p] w (WRet s w k P) := by
  have H := hide h
  have HG := hide hg
  have c0 : w.cell? ⟨d, 0, none⟩ = some (.pointer (some ⟨s.b, 0, none⟩)) := cell_of_row _ _ 0 _ _ _ hd
  clear h hg hd
  go_enter Tryz.func28, Tryz.ntmps28
  go_wp2_with fail
  refine H.out.mono ?_
  rintro _ w1 ⟨v, rfl, hr⟩
  dsimp only
  have HR := hide (errno_ret hr HG.out)
  clear hr
  go_wp2_with fail
  refine HR.out.mono ?_
  rintro _ w2 ⟨rfl, hp⟩
  dsimp only
  have HP := hide hp
  clear hp
  go_wp2_with fail
  go_ret
  exact ⟨rfl, HP.out⟩
theorem wRemove_nil (p : ByteArray) (w : World) : Calls Tryz.prog 28 #[.pointer none, .string p] w fun e w' => e = .returned (.int .i64 1) ∧ w' = w := by
  go_enter Tryz.func28, Tryz.ntmps28
  go_wp2_with fail
  go_ret
  exact ⟨rfl, rfl⟩
set_option maxHeartbeats 1000000 in
set_option maxRecDepth 100000 in
theorem wTruncate (s : PSt) (d : Nat) (p : ByteArray) (n : Int) (w : World) (k : Int) (P : PSt → Prop) (hd : BD w d s.b) (hg : w.cell? ⟨0, 0, none⟩ = some errT)
    (h : Calls Tryz.prog 61 #[.pointer (some ⟨s.b, 0, none⟩), .string p, .int .i64 n] w fun e w' => ∃ v, e = .returned v ∧ PRet s w k P v w') :
    Calls Tryz.prog 30 #[.pointer (some ⟨d, 0, none⟩), .string p, .int .i64 n] w (WRet s w k P) := by
  have H := hide h
  have HG := hide hg
  have c0 : w.cell? ⟨d, 0, none⟩ = some (.pointer (some ⟨s.b, 0, none⟩)) := cell_of_row _ _ 0 _ _ _ hd
  clear h hg hd
  go_enter Tryz.func30, Tryz.ntmps30
  go_wp2_with fail
  refine H.out.mono ?_
  rintro _ w1 ⟨v, rfl, hr⟩
  dsimp only
  have HR := hide (errno_ret hr HG.out)
  clear hr
  go_wp2_with fail
  refine HR.out.mono ?_
  rintro _ w2 ⟨rfl, hp⟩
  dsimp only
  have HP := hide hp
  clear hp
  go_wp2_with fail
  go_ret
  exact ⟨rfl, HP.out⟩
theorem wTruncate_nil (p : ByteArray) (n : Int) (w : World) : Calls Tryz.prog 30 #[.pointer none, .string p, .int .i64 n] w fun e w' => e = .returned (.int .i64 1) ∧ w' = w := by
  go_enter Tryz.func30, Tryz.ntmps30
  go_wp2_with fail
  go_ret
  exact ⟨rfl, rfl⟩
set_option maxHeartbeats 1000000 in
set_option maxRecDepth 100000 in
theorem wSync (s : PSt) (d : Nat) (p : ByteArray) (w : World) (k : Int) (P : PSt → Prop) (hd : BD w d s.b) (hg : w.cell? ⟨0, 0, none⟩ = some errT)
    (h : Calls Tryz.prog 62 #[.pointer (some ⟨s.b, 0, none⟩), .string p] w fun e w' => ∃ v, e = .returned v ∧ PRet s w k P v w') :
    Calls Tryz.prog 32 #[.pointer (some ⟨d, 0, none⟩), .string p] w (WRet s w k P) := by
  have H := hide h
  have HG := hide hg
  have c0 : w.cell? ⟨d, 0, none⟩ = some (.pointer (some ⟨s.b, 0, none⟩)) := cell_of_row _ _ 0 _ _ _ hd
  clear h hg hd
  go_enter Tryz.func32, Tryz.ntmps32
  go_wp2_with fail
  refine H.out.mono ?_
  rintro _ w1 ⟨v, rfl, hr⟩
  dsimp only
  have HR := hide (errno_ret hr HG.out)
  clear hr
  go_wp2_with fail
  refine HR.out.mono ?_
  rintro _ w2 ⟨rfl, hp⟩
  dsimp only
  have HP := hide hp
  clear hp
  go_wp2_with fail
  go_ret
  exact ⟨rfl, HP.out⟩
theorem wSync_nil (p : ByteArray) (w : World) : Calls Tryz.prog 32 #[.pointer none, .string p] w fun e w' => e = .returned (.int .i64 1) ∧ w' = w := by
  go_enter Tryz.func32, Tryz.ntmps32
  go_wp2_with fail
  go_ret
  exact ⟨rfl, rfl⟩
set_option maxHeartbeats 1000000 in
set_option maxRecDepth 100000 in
theorem wSyncDir (s : PSt) (d : Nat)  (w : World) (k : Int) (P : PSt → Prop) (hd : BD w d s.b) (hg : w.cell? ⟨0, 0, none⟩ = some errT)
    (h : Calls Tryz.prog 63 #[.pointer (some ⟨s.b, 0, none⟩)] w fun e w' => ∃ v, e = .returned v ∧ PRet s w k P v w') :
    Calls Tryz.prog 34 #[.pointer (some ⟨d, 0, none⟩)] w (WRet s w k P) := by
  have H := hide h
  have HG := hide hg
  have c0 : w.cell? ⟨d, 0, none⟩ = some (.pointer (some ⟨s.b, 0, none⟩)) := cell_of_row _ _ 0 _ _ _ hd
  clear h hg hd
  go_enter Tryz.func34, Tryz.ntmps34
  go_wp2_with fail
  refine H.out.mono ?_
  rintro _ w1 ⟨v, rfl, hr⟩
  dsimp only
  have HR := hide (errno_ret hr HG.out)
  clear hr
  go_wp2_with fail
  refine HR.out.mono ?_
  rintro _ w2 ⟨rfl, hp⟩
  dsimp only
  have HP := hide hp
  clear hp
  go_wp2_with fail
  go_ret
  exact ⟨rfl, HP.out⟩
theorem wSyncDir_nil  (w : World) : Calls Tryz.prog 34 #[.pointer none] w fun e w' => e = .returned (.int .i64 1) ∧ w' = w := by
  go_enter Tryz.func34, Tryz.ntmps34
  go_wp2_with fail
  go_ret
  exact ⟨rfl, rfl⟩
set_option maxHeartbeats 1000000 in
set_option maxRecDepth 100000 in
theorem wSpoil (s : PSt) (d : Nat) (p : ByteArray) (a : Int) (m : Int) (w : World) (k : Int) (P : PSt → Prop) (hd : BD w d s.b) (hg : w.cell? ⟨0, 0, none⟩ = some errT)
    (h : Calls Tryz.prog 64 #[.pointer (some ⟨s.b, 0, none⟩), .string p, .int .i64 a, .int .i64 m] w fun e w' => ∃ v, e = .returned v ∧ PRet s w k P v w') :
    Calls Tryz.prog 36 #[.pointer (some ⟨d, 0, none⟩), .string p, .int .i64 a, .int .i64 m] w (WRet s w k P) := by
  have H := hide h
  have HG := hide hg
  have c0 : w.cell? ⟨d, 0, none⟩ = some (.pointer (some ⟨s.b, 0, none⟩)) := cell_of_row _ _ 0 _ _ _ hd
  clear h hg hd
  go_enter Tryz.func36, Tryz.ntmps36
  go_wp2_with fail
  refine H.out.mono ?_
  rintro _ w1 ⟨v, rfl, hr⟩
  dsimp only
  have HR := hide (errno_ret hr HG.out)
  clear hr
  go_wp2_with fail
  refine HR.out.mono ?_
  rintro _ w2 ⟨rfl, hp⟩
  dsimp only
  have HP := hide hp
  clear hp
  go_wp2_with fail
  go_ret
  exact ⟨rfl, HP.out⟩
theorem wSpoil_nil (p : ByteArray) (a : Int) (m : Int) (w : World) : Calls Tryz.prog 36 #[.pointer none, .string p, .int .i64 a, .int .i64 m] w fun e w' => e = .returned (.int .i64 1) ∧ w' = w := by
  go_enter Tryz.func36, Tryz.ntmps36
  go_wp2_with fail
  go_ret
  exact ⟨rfl, rfl⟩
set_option maxHeartbeats 1000000 in
set_option maxRecDepth 100000 in
theorem wBreak (s : PSt) (d : Nat) (n : Int) (w : World) (k : Int) (P : PSt → Prop) (hd : BD w d s.b) (hg : w.cell? ⟨0, 0, none⟩ = some errT)
    (h : Calls Tryz.prog 65 #[.pointer (some ⟨s.b, 0, none⟩), .int .i64 n] w fun e w' => ∃ v, e = .returned v ∧ PRet s w k P v w') :
    Calls Tryz.prog 38 #[.pointer (some ⟨d, 0, none⟩), .int .i64 n] w (WRet s w k P) := by
  have H := hide h
  have HG := hide hg
  have c0 : w.cell? ⟨d, 0, none⟩ = some (.pointer (some ⟨s.b, 0, none⟩)) := cell_of_row _ _ 0 _ _ _ hd
  clear h hg hd
  go_enter Tryz.func38, Tryz.ntmps38
  go_wp2_with fail
  refine H.out.mono ?_
  rintro _ w1 ⟨v, rfl, hr⟩
  dsimp only
  have HR := hide (errno_ret hr HG.out)
  clear hr
  go_wp2_with fail
  refine HR.out.mono ?_
  rintro _ w2 ⟨rfl, hp⟩
  dsimp only
  have HP := hide hp
  clear hp
  go_wp2_with fail
  go_ret
  exact ⟨rfl, HP.out⟩
theorem wBreak_nil (n : Int) (w : World) : Calls Tryz.prog 38 #[.pointer none, .int .i64 n] w fun e w' => e = .returned (.int .i64 1) ∧ w' = w := by
  go_enter Tryz.func38, Tryz.ntmps38
  go_wp2_with fail
  go_ret
  exact ⟨rfl, rfl⟩
set_option maxHeartbeats 1000000 in
set_option maxRecDepth 100000 in
theorem wList (d b : Nat) (Q : Value → World → Prop) (w : World) (hd : BD w d b) 
    (h : Calls Tryz.prog 49 #[.pointer (some ⟨b, 0, none⟩)] w fun e w' => ∃ v, e = .returned v ∧ Q v w') :
    Calls Tryz.prog 16 #[.pointer (some ⟨d, 0, none⟩)] w fun e w' => ∃ v, e = .returned (.tuple #[v, .int .i64 0]) ∧ Q v w' := by
  have H := hide h
  have c0 : w.cell? ⟨d, 0, none⟩ = some (.pointer (some ⟨b, 0, none⟩)) := cell_of_row _ _ 0 _ _ _ hd
  clear h hd
  go_enter Tryz.func16, Tryz.ntmps16
  go_wp2_with fail
  refine H.out.mono ?_
  rintro _ w1 ⟨v, rfl, hq⟩
  dsimp only
  have HQ := hide hq
  clear hq
  go_wp2_with fail
  refine bodyPost_ret (results_tmp2 rfl _ _ _) rfl ?_
  exact ⟨v, rfl, HQ.out⟩
set_option maxHeartbeats 1000000 in
set_option maxRecDepth 100000 in
theorem wUsed (d b : Nat) (Q : Value → World → Prop) (w : World) (hd : BD w d b) 
    (h : Calls Tryz.prog 51 #[.pointer (some ⟨b, 0, none⟩)] w fun e w' => ∃ v, e = .returned v ∧ Q v w') :
    Calls Tryz.prog 20 #[.pointer (some ⟨d, 0, none⟩)] w fun e w' => ∃ v, e = .returned (.tuple #[v, .int .i64 0]) ∧ Q v w' := by
  have H := hide h
  have c0 : w.cell? ⟨d, 0, none⟩ = some (.pointer (some ⟨b, 0, none⟩)) := cell_of_row _ _ 0 _ _ _ hd
  clear h hd
  go_enter Tryz.func20, Tryz.ntmps20
  go_wp2_with fail
  refine H.out.mono ?_
  rintro _ w1 ⟨v, rfl, hq⟩
  dsimp only
  have HQ := hide hq
  clear hq
  go_wp2_with fail
  refine bodyPost_ret (results_tmp2 rfl _ _ _) rfl ?_
  exact ⟨v, rfl, HQ.out⟩
set_option maxHeartbeats 1000000 in
set_option maxRecDepth 100000 in
theorem wSteps (d b : Nat) (Q : Value → World → Prop) (w : World) (hd : BD w d b) 
    (h : Calls Tryz.prog 53 #[.pointer (some ⟨b, 0, none⟩)] w fun e w' => ∃ v, e = .returned v ∧ Q v w') :
    Calls Tryz.prog 22 #[.pointer (some ⟨d, 0, none⟩)] w fun e w' => ∃ v, e = .returned (.tuple #[v, .int .i64 0]) ∧ Q v w' := by
  have H := hide h
  have c0 : w.cell? ⟨d, 0, none⟩ = some (.pointer (some ⟨b, 0, none⟩)) := cell_of_row _ _ 0 _ _ _ hd
  clear h hd
  go_enter Tryz.func22, Tryz.ntmps22
  go_wp2_with fail
  refine H.out.mono ?_
  rintro _ w1 ⟨v, rfl, hq⟩
  dsimp only
  have HQ := hide hq
  clear hq
  go_wp2_with fail
  refine bodyPost_ret (results_tmp2 rfl _ _ _) rfl ?_
  exact ⟨v, rfl, HQ.out⟩
set_option maxHeartbeats 1000000 in
set_option maxRecDepth 100000 in
theorem wCrash (d b : Nat) (n : Int) (kv : Value) (Q : World → Prop) (w : World) (hd : BD w d b) 
    (h : Calls Tryz.prog 85 #[.pointer (some ⟨b, 0, none⟩), .int .i64 n, kv] w fun e w' => e = .returned (.tuple #[]) ∧ Q w') :
    Calls Tryz.prog 66 #[.pointer (some ⟨d, 0, none⟩), .int .i64 n, kv] w fun e w' => e = .returned (.int .i64 0) ∧ Q w' := by
  have H := hide h
  have c0 : w.cell? ⟨d, 0, none⟩ = some (.pointer (some ⟨b, 0, none⟩)) := cell_of_row _ _ 0 _ _ _ hd
  clear h hd
  go_enter Tryz.func66, Tryz.ntmps66
  go_wp2_with fail
  refine H.out.mono ?_
  rintro _ w1 ⟨rfl, hq⟩
  dsimp only
  have HQ := hide hq
  clear hq
  go_wp2_with fail
  go_ret
  exact ⟨rfl, HQ.out⟩
set_option maxHeartbeats 1000000 in
set_option maxRecDepth 100000 in
theorem wCopy (d b : Nat) (Q : Nat → World → Prop) (w : World) (hd : BD w d b) 
    (h : Calls Tryz.prog 13 #[.pointer (some ⟨b, 0, none⟩)] w fun e w' => ∃ g, e = .returned (.pointer (some ⟨g, 0, none⟩)) ∧ Q g w') :
    Calls Tryz.prog 7 #[.pointer (some ⟨d, 0, none⟩)] w fun e w' => ∃ g w1, e = .returned (.tuple #[.pointer (some ⟨w1.heap.size, 0, none⟩), .int .i64 0]) ∧ w' = w1.alloc (.cells #[.pointer (some ⟨g, 0, none⟩)] 53) ∧ Q g w1 := by
  have H := hide h
  have c0 : w.cell? ⟨d, 0, none⟩ = some (.pointer (some ⟨b, 0, none⟩)) := cell_of_row _ _ 0 _ _ _ hd
  clear h hd
  go_enter Tryz.func7, Tryz.ntmps7
  go_wp2_with fail
  refine H.out.mono ?_
  rintro _ w1 ⟨g, rfl, hq⟩
  dsimp only
  have HQ := hide hq
  clear hq
  go_wp2_with fail
  refine bodyPost_ret (results_tmp2 rfl _ _ _) rfl ?_
  exact ⟨g, w1, rfl, rfl, HQ.out⟩
set_option maxHeartbeats 1000000 in
set_option maxRecDepth 100000 in
theorem wNewDisk (n : Int) (Q : Nat → World → Prop) (w : World) 
    (h : Calls Tryz.prog 12 #[.int .i64 n] w fun e w' => ∃ g, e = .returned (.pointer (some ⟨g, 0, none⟩)) ∧ Q g w') :
    Calls Tryz.prog 4 #[.int .i64 n] w fun e w' => ∃ g w1, e = .returned (.pointer (some ⟨w1.heap.size, 0, none⟩)) ∧ w' = w1.alloc (.cells #[.pointer (some ⟨g, 0, none⟩)] 53) ∧ Q g w1 := by
  have H := hide h
  clear h
  go_enter Tryz.func4, Tryz.ntmps4
  go_wp2_with fail
  refine H.out.mono ?_
  rintro _ w1 ⟨g, rfl, hq⟩
  dsimp only
  have HQ := hide hq
  clear hq
  go_wp2_with fail
  go_ret
  exact ⟨g, w1, rfl, rfl, HQ.out⟩
set_option maxHeartbeats 1000000 in
set_option maxRecDepth 100000 in
theorem wRead (s : PSt) (d : Nat) (p : ByteArray) (w : World) (k : Int) (P : PSt → Prop) (t : ByteArray) (hd : BD w d s.b) (hg : w.cell? ⟨0, 0, none⟩ = some errT)
    (h : Calls Tryz.prog 46 #[.pointer (some ⟨s.b, 0, none⟩), .string p] w fun e w' => ∃ v, e = .returned (.tuple #[.string t, v]) ∧ PRet s w k P v w') :
    Calls Tryz.prog 14 #[.pointer (some ⟨d, 0, none⟩), .string p] w fun e w' => e = .returned (.tuple #[.string t, .int .i64 k]) ∧ (k ≠ 0 → Below w.heap.size w w') ∧ (k = 0 → ∃ s1, PGo s s1 w w' ∧ P s1) := by
  have H := hide h
  have HG := hide hg
  have c0 : w.cell? ⟨d, 0, none⟩ = some (.pointer (some ⟨s.b, 0, none⟩)) := cell_of_row _ _ 0 _ _ _ hd
  clear h hg hd
  go_enter Tryz.func14, Tryz.ntmps14
  go_wp2_with fail
  refine H.out.mono ?_
  rintro _ w1 ⟨v, rfl, hr⟩
  dsimp only
  have HR := hide (errno_ret hr HG.out)
  clear hr
  go_wp2_with fail
  refine HR.out.mono ?_
  rintro _ w2 ⟨rfl, hp⟩
  dsimp only
  have HP := hide hp
  clear hp
  go_wp2_with fail
  refine bodyPost_ret (results_tmp2 rfl _ _ _) rfl ?_
  exact ⟨rfl, HP.out⟩
theorem wRead_nil (p : ByteArray) (w : World) : Calls Tryz.prog 14 #[.pointer none, .string p] w fun e w' => e = .returned (.tuple #[.string ⟨#[]⟩, .int .i64 1]) ∧ w' = w := by
  go_enter Tryz.func14, Tryz.ntmps14
  go_wp2_with fail
  refine bodyPost_ret (results_tmp2 rfl _ _ _) rfl ?_
  exact ⟨rfl, rfl⟩
theorem wList_nil (w : World) : Calls Tryz.prog 16 #[.pointer none] w fun e w' => e = .returned (.tuple #[.slice none 0 0, .int .i64 1]) ∧ w' = w := by
  go_enter Tryz.func16, Tryz.ntmps16
  go_wp2_with fail
  refine bodyPost_ret (results_tmp2 rfl _ _ _) rfl ?_
  exact ⟨rfl, rfl⟩
theorem wUsed_nil (w : World) : Calls Tryz.prog 20 #[.pointer none] w fun e w' => e = .returned (.tuple #[.int .i64 0, .int .i64 1]) ∧ w' = w := by
  go_enter Tryz.func20, Tryz.ntmps20
  go_wp2_with fail
  refine bodyPost_ret (results_tmp2 rfl _ _ _) rfl ?_
  exact ⟨rfl, rfl⟩
theorem wSteps_nil (w : World) : Calls Tryz.prog 22 #[.pointer none] w fun e w' => e = .returned (.tuple #[.int .i64 0, .int .i64 1]) ∧ w' = w := by
  go_enter Tryz.func22, Tryz.ntmps22
  go_wp2_with fail
  refine bodyPost_ret (results_tmp2 rfl _ _ _) rfl ?_
  exact ⟨rfl, rfl⟩
theorem wCopy_nil (w : World) : Calls Tryz.prog 7 #[.pointer none] w fun e w' => e = .returned (.tuple #[.pointer none, .int .i64 1]) ∧ w' = w := by
  go_enter Tryz.func7, Tryz.ntmps7
  go_wp2_with fail
  refine bodyPost_ret (results_tmp2 rfl _ _ _) rfl ?_
  exact ⟨rfl, rfl⟩
theorem wCrash_nil (n : Int) (kv : Value) (w : World) : Calls Tryz.prog 66 #[.pointer none, .int .i64 n, kv] w fun e w' => e = .returned (.int .i64 1) ∧ w' = w := by
  go_enter Tryz.func66, Tryz.ntmps66
  go_wp2_with fail
  go_ret
  exact ⟨rfl, rfl⟩
end Go.Proofs.YtjipdjkcdoajbaaGreatDoor
