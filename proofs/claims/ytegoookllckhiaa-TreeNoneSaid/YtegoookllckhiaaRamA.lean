/-
  The contracts of ram's Frames, has and Bad, and of the piece that its other calls share: they read the memory and change nothing.
  Conditions: the memory is known whole.
-/
import Derived.Test.YtegoookllckhiaaProg
import Derived.Test.YtegoookllckhiaaWrd
import Derived.WalkKit
import Derived.WalkSpells
import Derived.Lib.Hide
import Derived.BigQuiet
import Derived.Outline
namespace Go.Proofs.Ytegoookllckhiaa
open Go.RowKit
set_option linter.unusedVariables false

theorem Try.cellsRam : Try.prog.cellsOf 88 = 1 := by kernel_rfl
theorem Try.cellsFrame : Try.prog.cellsOf 85 = 65 := by kernel_rfl

/-- The memory m, in blocks gR and gF: n frames, the bytes of frame f, and whether it is poisoned. -/
def Mem (w : World) (gR gF n : Nat) (F : Nat → List Nat) (bad : Nat → Bool) : Prop :=
  ∃ cur, Blk w gR 88 #[.slice (some ⟨gF, 0, none⟩) n n] ∧ Blk w gF 85 cur ∧ cur.size = n * 65 ∧ n ≤ 1024 ∧
    ∀ f, f < n → (F f).length = 64 ∧ (∀ y ∈ F f, y < 256) ∧ (∀ i, i < 64 → cur[f * 65 + i]? = some (bv ((F f).getD i 0))) ∧ cur[f * 65 + 64]? = some (.bool (bad f))

theorem Mem.head {w : World} {gR gF n : Nat} {F : Nat → List Nat} {bad : Nat → Bool} (h : Mem w gR gF n F bad) : w.cell? ⟨gR, 0, none⟩ = some (.slice (some ⟨gF, 0, none⟩) n n) := by
  obtain ⟨cur, h1, _⟩ := h
  rw [h1.cell]
  rfl
theorem Mem.few {w : World} {gR gF n : Nat} {F : Nat → List Nat} {bad : Nat → Bool} (h : Mem w gR gF n F bad) : n ≤ 1024 := by
  obtain ⟨cur, _, _, _, h1, _⟩ := h
  exact h1
theorem Mem.mark {w : World} {gR gF n : Nat} {F : Nat → List Nat} {bad : Nat → Bool} (h : Mem w gR gF n F bad) {f : Nat} (hf : f < n) : w.cell? ⟨gF, f * 65 + 64, none⟩ = some (.bool (bad f)) := by
  obtain ⟨cur, _, h2, _, _, h3⟩ := h
  rw [h2.cell]
  exact (h3 f hf).2.2.2
theorem Mem.long {w : World} {gR gF n : Nat} {F : Nat → List Nat} {bad : Nat → Bool} (h : Mem w gR gF n F bad) {f : Nat} (hf : f < n) : (F f).length = 64 := by
  obtain ⟨cur, _, h2, _, _, h3⟩ := h
  exact (h3 f hf).1

set_option maxHeartbeats 400000 in
theorem frames_any (gR gF n : Nat) (F : Nat → List Nat) (bad : Nat → Bool) (w : World) (h : Mem w gR gF n F bad) :
    Calls Try.prog 61 #[.pointer (some ⟨gR, 0, none⟩)] w fun e w' => e = .returned (.int .i64 n) ∧ w = w' := by
  have hc := h.head
  clear h
  go_enter Try.func61, Try.ntmps61
  go_wp2
  go_ret
  exact ⟨rfl, rfl⟩
set_option maxHeartbeats 400000 in
theorem frames_nil (w : World) :
    Calls Try.prog 61 #[.pointer none] w fun e w' => e = .returned (.int .i64 0) ∧ w = w' := by
  go_enter Try.func61, Try.ntmps61
  go_wp2
  go_ret
  exact ⟨rfl, rfl⟩

set_option maxHeartbeats 400000 in
theorem has_yes (gR gF n : Nat) (F : Nat → List Nat) (bad : Nat → Bool) (f : Nat) (w : World) (h : Mem w gR gF n F bad) (hf : f < n) :
    Calls Try.prog 42 #[.pointer (some ⟨gR, 0, none⟩), .int .i64 f] w fun e w' => e = .returned (.bool true) ∧ w = w' := by
  have HF := Lib.hid (frames_any gR gF n F bad w h)
  clear h
  have h1 : (f : Int) < (n : Int) := by omega
  have h2 : (0 : Int) ≤ (f : Int) := by omega
  go_enter Try.func42, Try.ntmps42
  go_wp2_with fail
  refine HF.out.mono ?_
  rintro e w1 ⟨rfl, rfl⟩
  go_wp2
  go_ret
  exact ⟨rfl, rfl⟩
set_option maxHeartbeats 400000 in
theorem has_no (gR gF n : Nat) (F : Nat → List Nat) (bad : Nat → Bool) (f : Int) (w : World) (h : Mem w gR gF n F bad) (hf : f < 0 ∨ (n : Int) ≤ f) :
    Calls Try.prog 42 #[.pointer (some ⟨gR, 0, none⟩), .int .i64 f] w fun e w' => e = .returned (.bool false) ∧ w = w' := by
  have HF := Lib.hid (frames_any gR gF n F bad w h)
  clear h
  by_cases h0 : f < 0
  · clear hf
    go_enter Try.func42, Try.ntmps42
    go_wp2_with fail
    go_ret
    exact ⟨rfl, rfl⟩
  · have h1 : (n : Int) ≤ f := by omega
    have h2 : 0 ≤ f := by omega
    have h3 : decide (f < (n : Int)) = false := by simp; omega
    clear hf h0
    go_enter Try.func42, Try.ntmps42
    go_wp2_with fail
    refine HF.out.mono ?_
    rintro e w1 ⟨rfl, rfl⟩
    go_wp2
    go_ret
    exact ⟨rfl, rfl⟩
set_option maxHeartbeats 400000 in
theorem has_nil (f : Int) (w : World) :
    Calls Try.prog 42 #[.pointer none, .int .i64 f] w fun e w' => e = .returned (.bool false) ∧ w = w' := by
  have HF := Lib.hid (frames_nil w)
  by_cases h0 : f < 0
  · go_enter Try.func42, Try.ntmps42
    go_wp2_with fail
    go_ret
    exact ⟨rfl, rfl⟩
  · have h2 : 0 ≤ f := by omega
    have h3 : decide (f < 0) = false := by simp; omega
    clear h0
    go_enter Try.func42, Try.ntmps42
    go_wp2_with fail
    refine HF.out.mono ?_
    rintro e w1 ⟨rfl, rfl⟩
    go_wp2
    go_ret
    exact ⟨rfl, rfl⟩

/-! ### the piece -/

/-- The n bytes from a on are in a frame. -/
def In64 (a n : Int) : Prop := 0 ≤ n ∧ 0 ≤ a ∧ a ≤ 64 - n
def Out64 (a n : Int) : Prop := n < 0 ∨ a < 0 ∨ 64 - n < a

set_option maxHeartbeats 400000 in
theorem piece_nil (f a n : Int) (w : World) :
    Calls Try.prog 66 #[.pointer none, .int .i64 f, .int .i64 a, .int .i64 n] w fun e w' => e = .returned (.tuple #[.slice none 0 0, .int .i64 1]) ∧ w = w' := by
  go_enter Try.func66, Try.ntmps66
  go_wp2_with fail
  refine (has_nil f w).mono ?_
  rintro e w1 ⟨rfl, rfl⟩
  go_wp2
  go_ret2
  exact ⟨rfl, rfl⟩
set_option maxHeartbeats 400000 in
theorem piece_none (gR gF m : Nat) (F : Nat → List Nat) (bad : Nat → Bool) (f a n : Int) (w : World) (h : Mem w gR gF m F bad) (hf : f < 0 ∨ (m : Int) ≤ f) :
    Calls Try.prog 66 #[.pointer (some ⟨gR, 0, none⟩), .int .i64 f, .int .i64 a, .int .i64 n] w fun e w' => e = .returned (.tuple #[.slice none 0 0, .int .i64 1]) ∧ w = w' := by
  have HH := Lib.hid (has_no gR gF m F bad f w h hf)
  clear h hf
  go_enter Try.func66, Try.ntmps66
  go_wp2_with fail
  refine HH.out.mono ?_
  rintro e w1 ⟨rfl, rfl⟩
  go_wp2
  go_ret2
  exact ⟨rfl, rfl⟩
set_option maxHeartbeats 400000 in
theorem piece_out (gR gF m : Nat) (F : Nat → List Nat) (bad : Nat → Bool) (f : Nat) (a n : Int) (w : World) (h : Mem w gR gF m F bad) (hf : f < m) (ho : Out64 a n) (hn : n ≤ 9223372036854775807) :
    Calls Try.prog 66 #[.pointer (some ⟨gR, 0, none⟩), .int .i64 f, .int .i64 a, .int .i64 n] w fun e w' => e = .returned (.tuple #[.slice none 0 0, .int .i64 1]) ∧ w = w' := by
  have HH := Lib.hid (has_yes gR gF m F bad f w h hf)
  clear h hf
  unfold Out64 at ho
  by_cases h1 : n < 0
  · have t1 : decide (n < 0) = true := by simp; omega
    clear ho
    go_enter Try.func66, Try.ntmps66
    go_wp2_with fail
    refine HH.out.mono ?_
    rintro e w1 ⟨rfl, rfl⟩
    go_wp2
    go_ret2
    exact ⟨rfl, rfl⟩
  · by_cases h2 : a < 0
    · have t1 : decide (n < 0) = false := by simp; omega
      have t2 : decide (a < 0) = true := by simp; omega
      have t3 : 0 ≤ n := by omega
      clear ho
      go_enter Try.func66, Try.ntmps66
      go_wp2_with fail
      refine HH.out.mono ?_
      rintro e w1 ⟨rfl, rfl⟩
      go_wp2
      go_ret2
      exact ⟨rfl, rfl⟩
    · have t1 : decide (n < 0) = false := by simp; omega
      have t2 : decide (a < 0) = false := by simp; omega
      have t3 : 0 ≤ n := by omega
      have t4 : 0 ≤ a := by omega
      have t5 : 64 - n < a := by omega
      have t6 : decide (64 - n < a) = true := by simp; omega
      clear ho
      go_enter Try.func66, Try.ntmps66
      go_wp2_with fail
      refine HH.out.mono ?_
      rintro e w1 ⟨rfl, rfl⟩
      go_wp2
      go_ret2
      exact ⟨rfl, rfl⟩
set_option maxHeartbeats 400000 in
theorem piece_bad (gR gF m : Nat) (F : Nat → List Nat) (bad : Nat → Bool) (f a n : Nat) (w : World) (h : Mem w gR gF m F bad) (hf : f < m) (hi : a + n ≤ 64) (hb : bad f = true) :
    Calls Try.prog 66 #[.pointer (some ⟨gR, 0, none⟩), .int .i64 f, .int .i64 a, .int .i64 n] w fun e w' => e = .returned (.tuple #[.slice none 0 0, .int .i64 7]) ∧ w = w' := by
  have HH := Lib.hid (has_yes gR gF m F bad f w h hf)
  have hc := h.head
  have hm := h.mark hf
  rw [hb] at hm
  clear h hb
  have t1 : decide ((n : Int) < 0) = false := decide_eq_false (by omega)
  have t2 : decide ((a : Int) < 0) = false := decide_eq_false (by omega)
  have t3 : (0 : Int) ≤ n := by omega
  have t4 : (0 : Int) ≤ a := by omega
  have t5 : (a : Int) ≤ 64 - n := by omega
  have t6 : decide (64 - (n : Int) < a) = false := by simp; omega
  have t7 : (f : Int) < (m : Int) := by omega
  have t8 : (0 : Int) ≤ (f : Int) := by omega
  go_enter Try.func66, Try.ntmps66
  go_wp2_with fail
  refine HH.out.mono ?_
  rintro e w1 ⟨rfl, rfl⟩
  go_wp2
  go_ret2
  exact ⟨rfl, rfl⟩
/-- Where a piece lies. -/
def PieceAt (g o n : Nat) (w : World) (e : Ending) (w' : World) : Prop := ∃ A, e = .returned (.tuple #[.slice A n n, .int .i64 0]) ∧ (0 < n → A = some ⟨g, o, none⟩) ∧ w = w'
theorem slice_lhm (w : World) (g o a n : Nat) (h : a + n ≤ 64) :
    ∃ A, (Instr.sliceAt 83 (.pointer (some ⟨g, o, none⟩)) (some (.int .i64 a)) (some (.int .i64 ((a : Int) + n))) (some (.int .i64 ((a : Int) + n)))).run Try.prog w = .ok (.slice A n n) w ∧ (0 < n → A = some ⟨g, o + a, none⟩) := by
  refine ⟨some (if a + n = a then ⟨g, o, none⟩ else (Addr.mk g o none).add (a * 1)), ?_, fun hn => ?_⟩
  · have hu : Try.prog.underlying 83 = some (.array 64 5) := Try.underlying83
    have hl : Try.prog.arrayLen 83 = 64 := by simp [Program.arrayLen, hu]
    have he : Try.prog.elem 83 = 5 := by simp [Program.elem, hu]
    rw [run_sliceAt_array_lhm w 83 ⟨g, o, none⟩ (by rw [hl, he]; exact hu) .i64 .i64 .i64 _ _ _ (by omega) (by omega) (by omega) (by rw [hl]; omega), he]
    have hs := Try.size8
    cases hq : Try.prog.info? 5 with
    | none => simp [hq] at hs
    | some i =>
      have hi : i.size = 1 := by simpa [hq] using hs
      have e1 : ((a : Int) + n).toNat = a + n := by omega
      simp [sizeOf, typeInfo, hq, hi, slicedAt, e1]
  · rw [if_neg (by omega), Nat.mul_one]
    congr 1
    unfold Addr.add
    split <;> simp_all
set_option maxHeartbeats 400000 in
theorem piece_yes (gR gF m : Nat) (F : Nat → List Nat) (bad : Nat → Bool) (f a n : Nat) (w : World) (h : Mem w gR gF m F bad) (hf : f < m) (hi : a + n ≤ 64) (hb : bad f = false) :
    Calls Try.prog 66 #[.pointer (some ⟨gR, 0, none⟩), .int .i64 f, .int .i64 a, .int .i64 n] w (PieceAt gF (f * 65 + a) n w) := by
  have HH := Lib.hid (has_yes gR gF m F bad f w h hf)
  have hc := h.head
  have hm := h.mark hf
  rw [hb] at hm
  clear h hb
  have t2 : decide ((a : Int) < 0) = false := decide_eq_false (by omega)
  have t4 : (0 : Int) ≤ a := by omega
  have t7 : (f : Int) < (m : Int) := by omega
  have t8 : (0 : Int) ≤ (f : Int) := by omega
  have t1 : decide ((n : Int) < 0) = false := decide_eq_false (by omega)
  have t3 : (0 : Int) ≤ n := by omega
  have t5 : (a : Int) ≤ 64 - n := by omega
  have t6 : decide (64 - (n : Int) < a) = false := decide_eq_false (by omega)
  obtain ⟨A, hs, hA⟩ := slice_lhm w gF (f * 65) a n hi
  have HA := Lib.hid hA
  clear hA
  go_enter Try.func66, Try.ntmps66
  go_wp2_with fail
  refine HH.out.mono ?_
  rintro e w1 ⟨rfl, rfl⟩
  go_wp2
  go_ret2
  exact ⟨_, rfl, HA.out, rfl⟩
end Go.Proofs.Ytegoookllckhiaa
