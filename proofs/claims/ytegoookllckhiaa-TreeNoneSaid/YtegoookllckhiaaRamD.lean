/-
  The contracts of ram's Copy and New, and of the document's Cut.
  Conditions: the memory is known whole.
-/
import Derived.Test.YtegoookllckhiaaRamC
import Derived.WalkLawsBesides
import Derived.Laws.MakeOwn
namespace Go.Proofs.Ytegoookllckhiaa
open Go.RowKit
/-- What the region that copies a frame reads and writes stands behind its store, too. -/
theorem copy_keeps (gR gF f t : Nat) (u : Value) (cs : List Value) (hl : cs.length = 64) (hne : gR ≠ gF) (W : World) (h1 : W.cell? ⟨gR, 0, none⟩ = some u) (h2 : W.rangeAt gF (f * 65) cs) (h3 : W.there gF (t * 65) 64) :
    (W.setCells gF (t * 65) cs).cell? ⟨gR, 0, none⟩ = some u ∧ (W.setCells gF (t * 65) cs).rangeAt gF (f * 65) cs ∧ (W.setCells gF (t * 65) cs).there gF (t * 65) 64 := by
  refine ⟨?_, ?_, World.there_setCells h3 _ _ _⟩
  · rw [World.cell?_setCells_out _ _ _ _ _ (fun e _ => absurd e hne), h1]
  · by_cases e : f = t
    · subst e
      exact World.rangeAt_setCells_same _ _ _ _ (by rw [hl]; exact h3)
    · exact World.rangeAt_setCells_apart h2 _ _ _ (by omega)
theorem Try.size64 : (Try.prog.info? 83).map (·.size) = some 64 := by kernel_rfl
/-! ### New -/

/-- A frame's cells as made. -/
def frm0 : Array Value := ⟨List.replicate 64 (.int .u8 0) ++ [.bool false]⟩
theorem Try.infoFrame : (Try.prog.info? 85).map (fun i => (i.zero.map (·.cells), i.size, decide (i.bytes ≤ 100))) = some (some frm0, 65, true) := by kernel_rfl
/-- So many frames' cells as made. -/
def frames0 (n : Nat) : Array Value := madeCells frm0 (n * 65)
theorem frames0_size (n : Nat) : (frames0 n).size = n * 65 := by simp [frames0, madeCells]
theorem frm0_size : frm0.size = 65 := rfl
theorem frames0_at (n f i : Nat) (hf : f < n) (hi : i < 65) : (frames0 n)[f * 65 + i]? = frm0[i]? := by
  have e : (f * 65 + i) % 65 = i := by omega
  have hi' : i < frm0.size := by rw [frm0_size]; exact hi
  have hr : f * 65 + i < n * 65 := by omega
  unfold frames0 madeCells
  rw [Array.getElem?_map, Array.getElem?_range, if_pos hr]
  simp only [Option.map_some, frm0_size, e]
  rw [getElem!_pos frm0 i hi', Array.getElem?_eq_getElem hi']
theorem make_frames (n : Nat) (hn : n ≤ 1024) (w : World) : (Instr.makeSlice 86 (.int .i64 (n : Int)) (.int .i64 (n : Int))).run Try.prog w = .ok (.slice (some ⟨w.heap.size, 0, none⟩) n n) (w.alloc (.cells (frames0 n) 85)) := by
  have h := Try.infoFrame
  cases hq : Try.prog.info? 85 with
  | none => rw [hq] at h; cases h
  | some i =>
    rw [hq] at h
    simp only [Option.map_some, Option.some.injEq, Prod.mk.injEq, decide_eq_true_eq] at h
    obtain ⟨h1, h2, h3⟩ := h
    obtain ⟨z, hz, hzc⟩ := Option.map_eq_some_iff.1 h1
    have hr := run_make (P := Try.prog) w _ _ i z Try.underlying86 hq hz .i64 .i64 n n (by omega) (by omega) (by
      have : (i.bytes : Int) ≤ 100 := by omega
      have h5 : (n : Int) ≤ 1024 := by omega
      have h6 : (i.bytes : Int) * n ≤ 100 * 1024 := Int.mul_le_mul this h5 (by omega) (by omega)
      omega) (by omega)
    simp only [Int.toNat_natCast, h2, hzc] at hr
    exact hr
/-- What New leaves. -/
def NewPost (w : World) (n : Nat) (e : Ending) (w' : World) : Prop :=
  e = .returned (.pointer (some ⟨w.heap.size + 1, 0, none⟩)) ∧ Mem w' (w.heap.size + 1) w.heap.size n (fun _ => zer) (fun _ => false) ∧ Below w.heap.size w w' ∧ w'.heap.size = w.heap.size + 2
theorem new_mem (w : World) (n : Nat) (hn : n ≤ 1024) :
    Mem ((w.alloc (.cells (frames0 n) 85)).alloc (.cells #[.slice (some ⟨w.heap.size, 0, none⟩) n n] 88)) (w.heap.size + 1) w.heap.size n (fun _ => zer) (fun _ => false) := by
  have h1 : Blk ((w.alloc (.cells (frames0 n) 85)).alloc (.cells #[.slice (some ⟨w.heap.size, 0, none⟩) n n] 88)) (w.heap.size + 1) 88 #[.slice (some ⟨w.heap.size, 0, none⟩) n n] := by
    have := Blk.new (w.alloc (.cells (frames0 n) 85)) 88 #[.slice (some ⟨w.heap.size, 0, none⟩) n n]
    simpa using this
  have h2 : Blk ((w.alloc (.cells (frames0 n) 85)).alloc (.cells #[.slice (some ⟨w.heap.size, 0, none⟩) n n] 88)) w.heap.size 85 (frames0 n) :=
    (Below.heap_alloc _ _ _ (by simp)).trans (Blk.new w _ _)
  refine ⟨frames0 n, h1, h2, frames0_size n, hn, fun f hf => ⟨zer_length, zer_byte, fun i hi => ?_, ?_⟩⟩
  · rw [frames0_at n f i hf (by omega)]
    have e : frm0[i]? = some (.int .u8 0) := by
      unfold frm0
      rw [List.getElem?_toArray, List.getElem?_append_left (by simpa using hi), List.getElem?_replicate, if_pos hi]
    have e2 : zer.getD i 0 = 0 := by
      unfold zer
      simp only [List.getD_eq_getElem?_getD, List.getElem?_replicate, hi, if_true, Option.getD_some]
    rw [e, e2]
    rfl
  · rw [frames0_at n f 64 hf (by omega)]
    unfold frm0
    rw [List.getElem?_toArray, List.getElem?_append_right (by simp)]
    simp

/-- As near to that as 0 to 1024 allow. -/
def Near (frames : Int) (n : Nat) : Prop := (frames ≤ 0 ∧ n = 0) ∨ (1024 ≤ frames ∧ n = 1024) ∨ (0 ≤ frames ∧ frames ≤ 1024 ∧ frames = n)

set_option maxHeartbeats 400000 in
theorem new_any (frames : Int) (n : Nat) (w : World) (h : Near frames n) : Calls Try.prog 24 #[.int .i64 frames] w (NewPost w n) := by
  have hn : n ≤ 1024 := by unfold Near at h; omega
  have HM := Lib.hid (new_mem w n hn)
  have HB := Lib.hid (show Below w.heap.size w ((w.alloc (.cells (frames0 n) 85)).alloc (.cells #[.slice (some ⟨w.heap.size, 0, none⟩) n n] 88)) from
    ((Below.refl _ _).alloc (Nat.le_refl _) _).alloc (by simp) _)
  have hmk := make_frames n hn w
  unfold Near at h
  by_cases c1 : frames < 0
  · obtain rfl : n = 0 := by omega
    have hmk' : (Instr.makeSlice 86 (.int .i64 0) (.int .i64 0)).run Try.prog w = .ok (.slice (some ⟨w.heap.size, 0, none⟩) 0 0) (w.alloc (.cells (frames0 0) 85)) := hmk
    clear hmk h
    go_enter Try.func24, Try.ntmps24
    go_wp2
    go_ret
    exact ⟨rfl, HM.out, HB.out, by simp⟩
  · by_cases c2 : 1024 < frames
    · obtain rfl : n = 1024 := by omega
      have hmk' : (Instr.makeSlice 86 (.int .i64 1024) (.int .i64 1024)).run Try.prog w = .ok (.slice (some ⟨w.heap.size, 0, none⟩) 1024 1024) (w.alloc (.cells (frames0 1024) 85)) := hmk
      clear hmk h
      go_enter Try.func24, Try.ntmps24
      go_wp2
      go_ret
      exact ⟨rfl, HM.out, HB.out, by simp⟩
    · obtain rfl : frames = n := by omega
      clear c1 h
      go_enter Try.func24, Try.ntmps24
      go_wp2
      go_ret
      exact ⟨rfl, HM.out, HB.out, by simp⟩

end Go.Proofs.Ytegoookllckhiaa
