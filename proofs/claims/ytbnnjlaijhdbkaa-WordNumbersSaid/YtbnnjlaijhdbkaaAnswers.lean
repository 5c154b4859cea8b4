/-
  The contract of the statements' own question 'answers': it answers true, and writes nothing that was there.
  Conditions: none.
-/
import Derived.Test.YtbnnjlaijhdbkaaSum
import Derived.Test.YtbnnjlaijhdbkaaPut
import Derived.BigQuiet
namespace Go.Proofs.Ytbnnjlaijhdbkaa
open Go.RowKit
set_option linter.unusedVariables false

theorem parts_nil (w : World) (B : Nat) : Parts w B (.slice none 0 0) [] :=
  ⟨none, 0, 0, rfl, rfl, by simp [maxLen], fun h => absurd h (by omega)⟩

theorem make2 (w : World) : (Instr.makeSlice 22 (.int .i64 2) (.int .i64 2)).run Try.prog w = .ok (.slice (some ⟨w.heap.size, 0, none⟩) 2 2) (w.alloc (.cells #[.int .u8 0, .int .u8 0] 5)) := by kernel_rfl

theorem PutPost.below {w w' : World} {g : Nat} {t : TypeId} {cur : Array Value} {B : Nat} (h : PutPost w w' g t cur) (hg : B ≤ g) (hB : B ≤ w.heap.size) : Below B w w' :=
  (Below.refl B w).grown h.2.1 hB (fun k hk => by cases hk; exact hg)
theorem getV_ex : getV [52, 18] 0 2 = 4660 := by decide
theorem blk_two (w : World) (o : Obj) (t : TypeId) (cs : Array Value) : Blk ((w.alloc o).alloc (.cells cs t)) (w.heap.size + 1) t cs := by
  have := Blk.new (w.alloc o) t cs
  simpa using this
theorem blk_one (w : World) (o : Obj) (t : TypeId) (cs : Array Value) : Blk ((w.alloc (.cells cs t)).alloc o) w.heap.size t cs :=
  (Below.heap_alloc _ _ _ (by simp)).trans (Blk.new w t cs)

set_option maxHeartbeats 400000 in
theorem answers_any (w : World) :
    Calls Try.prog 8 #[] w fun e w' => e = .returned (.bool true) ∧ Below w.heap.size w w' := by
  obtain ⟨W, hW⟩ : ∃ W, W = (w.alloc (.cells #[.int .u8 0, .int .u8 0] 5)).alloc (.cells #[.int .u8 52, .int .u8 18] 5) := ⟨_, rfl⟩
  have hz : W.heap.size = w.heap.size + 2 := by rw [hW]; simp
  have hb0 : Blk W w.heap.size 5 #[.int .u8 0, .int .u8 0] := by rw [hW]; exact blk_one w _ _ _
  have hb1 : Blk W (w.heap.size + 1) 5 #[.int .u8 52, .int .u8 18] := by rw [hW]; exact blk_two w _ _ _
  have hbel : Below w.heap.size w W := by rw [hW]; exact ((Below.refl _ _).alloc (Nat.le_refl _) _).alloc (by simp) _
  have hbt : Bts W (w.heap.size + 2) (.slice (some ⟨w.heap.size + 1, 0, none⟩) 2 2) [52, 18] :=
    Bts.of_blk hb1 (by omega) rfl (by omega) (by simp [maxLen]) (fun j hj => by match j, hj with | 0, _ => decide | 1, _ => decide)
      (fun j hj => by match j, hj with | 0, _ => rfl | 1, _ => rfl)
  have hget : Calls Try.prog 9 #[.slice (some ⟨w.heap.size + 1, 0, none⟩) 2 2, .int .i64 0, .int .i64 2] W
      fun e w' => e = .returned (.tuple #[.int .u64 4660, .bool true]) ∧ W = w' := by
    have h := get_yes _ [52, 18] _ 0 2 W hbt (by unfold Fit; simp)
    rw [getV_ex] at h
    exact h
  have hput : Calls Try.prog 11 #[.slice (some ⟨w.heap.size, 0, none⟩) 2 2, .int .i64 0, .int .u64 4660, .int .i64 2] W
      fun e w' => e = .returned (.bool true) ∧ PutPost W w' w.heap.size 5 (putV #[.int .u8 0, .int .u8 0] 0 4660 2) :=
    put_yes w.heap.size 0 2 2 4660 5 #[.int .u8 0, .int .u8 0] 0 2 W (by simp [maxLen]) (by unfold Fit; simp) hb0 (by simp)
  rw [hW] at hget hput
  have HG := Lib.hid hget
  have HP := Lib.hid hput
  have HB := Lib.hid hbel
  have HW := Lib.hid hW
  clear hget hput hbel hW hb0 hb1 hbt hz
  have hmk := make2
  go_enter Try.func8, Try.ntmps8
  go_wp2_with fail
  refine HG.out.mono ?_
  rintro e w1 ⟨rfl, rfl⟩
  go_wp2_with fail
  refine HP.out.mono ?_
  rintro e w2 ⟨rfl, hp⟩
  rw [← HW.out] at hp
  have hc : w2.cell? ⟨w.heap.size, 0, none⟩ = some (.int .u8 52) := by rw [hp.1.cell]; rfl
  have HP2 := Lib.hid hp
  clear hp
  go_wp2_with fail
  refine (sum_any _ [] 0 _ (parts_nil _ _)).mono ?_
  rintro e w3 ⟨rfl, rfl⟩
  go_wp2_with fail
  refine (refSum_any _ [] 0 _ (Bts.nil_ _ _)).mono ?_
  rintro e w3 ⟨rfl, rfl⟩
  go_wp2
  go_ret
  exact ⟨by simp, HB.out.trans (HP2.out.below (Nat.le_refl _) HB.out.size)⟩
end Go.Proofs.Ytbnnjlaijhdbkaa
