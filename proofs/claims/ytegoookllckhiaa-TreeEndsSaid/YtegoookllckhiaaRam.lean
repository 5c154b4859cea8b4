/-
  The contracts of ram: frames in memory, Read, Write, Zero, Poison, Copy, New.
  Conditions: those that each line bears.
-/
import Derived.Test.YtegoookllckhiaaProg
import Derived.Test.YtegoookllckhiaaWrd
import Derived.WalkKit
import Derived.WalkSpells
import Derived.Lib.Hide
import Derived.BigQuiet
import Derived.Outline
import Derived.Test.YtegoookllckhiaaBas
import Derived.Deep.RegionHeld3
import Derived.Deep.DrawnRows
import Derived.Lib.SliceRun
import Derived.WalkLawsBesides
import Derived.Laws.MakeOwn

/-! ## RamA: The contracts of ram's Frames, has and Bad, and of the piece that its other calls share: they read the memory and change nothing.   Conditions: the memory is known whole. -/
namespace Go.Proofs.Ytegoookllckhiaa
open Go.RowKit
set_option linter.unusedVariables false

theorem Try.cellsRam : Try.prog.cellsOf 88 = 1 := by kernel_rfl
theorem Try.cellsFrame : Try.prog.cellsOf 85 = 65 := by kernel_rfl

/-- The memory m, in blocks gR and gF: n frames, the bytes of frame f, and whether it is poisoned. -/
def Mem (w : World) (gR gF n : Nat) (F : Nat → List Nat) (bad : Nat → Bool) : Prop :=
  ∃ cur, Blk w gR 88 #[.slice (some ⟨gF, 0, none⟩) n n] ∧ Blk w gF 85 cur ∧ cur.size = n * 65 ∧ n ≤ 1024 ∧
    ∀ f, f < n → (F f).length = 64 ∧ (∀ y ∈ F f, y < 256) ∧ (∀ i, i < 64 → cur[f * 65 + i]? = some (bv ((F f).getD i 0))) ∧ cur[f * 65 + 64]? = some (.bool (bad f))

theorem Mem.head {w : World} {gR gF n : Nat} {F : Nat → List Nat} {bad : Nat → Bool} (h : Mem w gR gF n F bad) : w.cell? ⟨gR, 0, none⟩ = some (.slice (some ⟨gF, 0, none⟩) n n) := by
  obtain ⟨cur, h1, _⟩ := h
  rw [h1.cell]
  rfl
theorem Mem.few {w : World} {gR gF n : Nat} {F : Nat → List Nat} {bad : Nat → Bool} (h : Mem w gR gF n F bad) : n ≤ 1024 := by
  obtain ⟨cur, _, _, _, h1, _⟩ := h
  exact h1
theorem Mem.mark {w : World} {gR gF n : Nat} {F : Nat → List Nat} {bad : Nat → Bool} (h : Mem w gR gF n F bad) {f : Nat} (hf : f < n) : w.cell? ⟨gF, f * 65 + 64, none⟩ = some (.bool (bad f)) := by
  obtain ⟨cur, _, h2, _, _, h3⟩ := h
  rw [h2.cell]
  exact (h3 f hf).2.2.2
theorem Mem.long {w : World} {gR gF n : Nat} {F : Nat → List Nat} {bad : Nat → Bool} (h : Mem w gR gF n F bad) {f : Nat} (hf : f < n) : (F f).length = 64 := by
  obtain ⟨cur, _, h2, _, _, h3⟩ := h
  exact (h3 f hf).1

set_option maxHeartbeats 400000 in
theorem frames_any (gR gF n : Nat) (F : Nat → List Nat) (bad : Nat → Bool) (w : World) (h : Mem w gR gF n F bad) :
    Calls Try.prog 61 #[.pointer (some ⟨gR, 0, none⟩)] w fun e w' => e = .returned (.int .i64 n) ∧ w = w' := by
  have hc := h.head
  clear h
  go_enter Try.func61, Try.ntmps61
  go_wp2
  go_ret
  exact ⟨rfl, rfl⟩
set_option maxHeartbeats 400000 in
theorem frames_nil (w : World) :
    Calls Try.prog 61 #[.pointer none] w fun e w' => e = .returned (.int .i64 0) ∧ w = w' := by
  go_enter Try.func61, Try.ntmps61
  go_wp2
  go_ret
  exact ⟨rfl, rfl⟩

set_option maxHeartbeats 400000 in
theorem has_yes (gR gF n : Nat) (F : Nat → List Nat) (bad : Nat → Bool) (f : Nat) (w : World) (h : Mem w gR gF n F bad) (hf : f < n) :
    Calls Try.prog 42 #[.pointer (some ⟨gR, 0, none⟩), .int .i64 f] w fun e w' => e = .returned (.bool true) ∧ w = w' := by
  have HF := Lib.hid (frames_any gR gF n F bad w h)
  clear h
  have h1 : (f : Int) < (n : Int) := by omega
  have h2 : (0 : Int) ≤ (f : Int) := by omega
  go_enter Try.func42, Try.ntmps42
  go_wp2_with fail
  refine HF.out.mono ?_
  rintro e w1 ⟨rfl, rfl⟩
  go_wp2
  go_ret
  exact ⟨rfl, rfl⟩
set_option maxHeartbeats 400000 in
theorem has_no (gR gF n : Nat) (F : Nat → List Nat) (bad : Nat → Bool) (f : Int) (w : World) (h : Mem w gR gF n F bad) (hf : f < 0 ∨ (n : Int) ≤ f) :
    Calls Try.prog 42 #[.pointer (some ⟨gR, 0, none⟩), .int .i64 f] w fun e w' => e = .returned (.bool false) ∧ w = w' := by
  have HF := Lib.hid (frames_any gR gF n F bad w h)
  clear h
  by_cases h0 : f < 0
  · clear hf
    go_enter Try.func42, Try.ntmps42
    go_wp2_with fail
    go_ret
    exact ⟨rfl, rfl⟩
  · have h1 : (n : Int) ≤ f := by omega
    have h2 : 0 ≤ f := by omega
    have h3 : decide (f < (n : Int)) = false := by simp; omega
    clear hf h0
    go_enter Try.func42, Try.ntmps42
    go_wp2_with fail
    refine HF.out.mono ?_
    rintro e w1 ⟨rfl, rfl⟩
    go_wp2
    go_ret
    exact ⟨rfl, rfl⟩
set_option maxHeartbeats 400000 in
theorem has_nil (f : Int) (w : World) :
    Calls Try.prog 42 #[.pointer none, .int .i64 f] w fun e w' => e = .returned (.bool false) ∧ w = w' := by
  have HF := Lib.hid (frames_nil w)
  by_cases h0 : f < 0
  · go_enter Try.func42, Try.ntmps42
    go_wp2_with fail
    go_ret
    exact ⟨rfl, rfl⟩
  · have h2 : 0 ≤ f := by omega
    have h3 : decide (f < 0) = false := by simp; omega
    clear h0
    go_enter Try.func42, Try.ntmps42
    go_wp2_with fail
    refine HF.out.mono ?_
    rintro e w1 ⟨rfl, rfl⟩
    go_wp2
    go_ret
    exact ⟨rfl, rfl⟩

/-! ### the piece -/

/-- The n bytes from a on are in a frame. -/
def In64 (a n : Int) : Prop := 0 ≤ n ∧ 0 ≤ a ∧ a ≤ 64 - n
def Out64 (a n : Int) : Prop := n < 0 ∨ a < 0 ∨ 64 - n < a

set_option maxHeartbeats 400000 in
theorem piece_nil (f a n : Int) (w : World) :
    Calls Try.prog 66 #[.pointer none, .int .i64 f, .int .i64 a, .int .i64 n] w fun e w' => e = .returned (.tuple #[.slice none 0 0, .int .i64 1]) ∧ w = w' := by
  go_enter Try.func66, Try.ntmps66
  go_wp2_with fail
  refine (has_nil f w).mono ?_
  rintro e w1 ⟨rfl, rfl⟩
  go_wp2
  go_ret2
  exact ⟨rfl, rfl⟩
set_option maxHeartbeats 400000 in
theorem piece_none (gR gF m : Nat) (F : Nat → List Nat) (bad : Nat → Bool) (f a n : Int) (w : World) (h : Mem w gR gF m F bad) (hf : f < 0 ∨ (m : Int) ≤ f) :
    Calls Try.prog 66 #[.pointer (some ⟨gR, 0, none⟩), .int .i64 f, .int .i64 a, .int .i64 n] w fun e w' => e = .returned (.tuple #[.slice none 0 0, .int .i64 1]) ∧ w = w' := by
  have HH := Lib.hid (has_no gR gF m F bad f w h hf)
  clear h hf
  go_enter Try.func66, Try.ntmps66
  go_wp2_with fail
  refine HH.out.mono ?_
  rintro e w1 ⟨rfl, rfl⟩
  go_wp2
  go_ret2
  exact ⟨rfl, rfl⟩
set_option maxHeartbeats 400000 in
theorem piece_out (gR gF m : Nat) (F : Nat → List Nat) (bad : Nat → Bool) (f : Nat) (a n : Int) (w : World) (h : Mem w gR gF m F bad) (hf : f < m) (ho : Out64 a n) (hn : n ≤ 9223372036854775807) :
    Calls Try.prog 66 #[.pointer (some ⟨gR, 0, none⟩), .int .i64 f, .int .i64 a, .int .i64 n] w fun e w' => e = .returned (.tuple #[.slice none 0 0, .int .i64 1]) ∧ w = w' := by
  have HH := Lib.hid (has_yes gR gF m F bad f w h hf)
  clear h hf
  unfold Out64 at ho
  by_cases h1 : n < 0
  · have t1 : decide (n < 0) = true := by simp; omega
    clear ho
    go_enter Try.func66, Try.ntmps66
    go_wp2_with fail
    refine HH.out.mono ?_
    rintro e w1 ⟨rfl, rfl⟩
    go_wp2
    go_ret2
    exact ⟨rfl, rfl⟩
  · by_cases h2 : a < 0
    · have t1 : decide (n < 0) = false := by simp; omega
      have t2 : decide (a < 0) = true := by simp; omega
      have t3 : 0 ≤ n := by omega
      clear ho
      go_enter Try.func66, Try.ntmps66
      go_wp2_with fail
      refine HH.out.mono ?_
      rintro e w1 ⟨rfl, rfl⟩
      go_wp2
      go_ret2
      exact ⟨rfl, rfl⟩
    · have t1 : decide (n < 0) = false := by simp; omega
      have t2 : decide (a < 0) = false := by simp; omega
      have t3 : 0 ≤ n := by omega
      have t4 : 0 ≤ a := by omega
      have t5 : 64 - n < a := by omega
      have t6 : decide (64 - n < a) = true := by simp; omega
      clear ho
      go_enter Try.func66, Try.ntmps66
      go_wp2_with fail
      refine HH.out.mono ?_
      rintro e w1 ⟨rfl, rfl⟩
      go_wp2
      go_ret2
      exact ⟨rfl, rfl⟩
set_option maxHeartbeats 400000 in
theorem piece_bad (gR gF m : Nat) (F : Nat → List Nat) (bad : Nat → Bool) (f a n : Nat) (w : World) (h : Mem w gR gF m F bad) (hf : f < m) (hi : a + n ≤ 64) (hb : bad f = true) :
    Calls Try.prog 66 #[.pointer (some ⟨gR, 0, none⟩), .int .i64 f, .int .i64 a, .int .i64 n] w fun e w' => e = .returned (.tuple #[.slice none 0 0, .int .i64 7]) ∧ w = w' := by
  have HH := Lib.hid (has_yes gR gF m F bad f w h hf)
  have hc := h.head
  have hm := h.mark hf
  rw [hb] at hm
  clear h hb
  have t1 : decide ((n : Int) < 0) = false := decide_eq_false (by omega)
  have t2 : decide ((a : Int) < 0) = false := decide_eq_false (by omega)
  have t3 : (0 : Int) ≤ n := by omega
  have t4 : (0 : Int) ≤ a := by omega
  have t5 : (a : Int) ≤ 64 - n := by omega
  have t6 : decide (64 - (n : Int) < a) = false := by simp; omega
  have t7 : (f : Int) < (m : Int) := by omega
  have t8 : (0 : Int) ≤ (f : Int) := by omega
  go_enter Try.func66, Try.ntmps66
  go_wp2_with fail
  refine HH.out.mono ?_
  rintro e w1 ⟨rfl, rfl⟩
  go_wp2
  go_ret2
  exact ⟨rfl, rfl⟩
/-- Where a piece lies. -/
def PieceAt (g o n : Nat) (w : World) (e : Ending) (w' : World) : Prop := ∃ A, e = .returned (.tuple #[.slice A n n, .int .i64 0]) ∧ (0 < n → A = some ⟨g, o, none⟩) ∧ w = w'
theorem slice_lhm (w : World) (g o a n : Nat) (h : a + n ≤ 64) :
    ∃ A, (Instr.sliceAt 83 (.pointer (some ⟨g, o, none⟩)) (some (.int .i64 a)) (some (.int .i64 ((a : Int) + n))) (some (.int .i64 ((a : Int) + n)))).run Try.prog w = .ok (.slice A n n) w ∧ (0 < n → A = some ⟨g, o + a, none⟩) := by
  refine ⟨some (if a + n = a then ⟨g, o, none⟩ else (Addr.mk g o none).add (a * 1)), ?_, fun hn => ?_⟩
  · have hu : Try.prog.underlying 83 = some (.array 64 5) := Try.underlying83
    have hl : Try.prog.arrayLen 83 = 64 := by simp [Program.arrayLen, hu]
    have he : Try.prog.elem 83 = 5 := by simp [Program.elem, hu]
    rw [run_sliceAt_array_lhm w 83 ⟨g, o, none⟩ (by rw [hl, he]; exact hu) .i64 .i64 .i64 _ _ _ (by omega) (by omega) (by omega) (by rw [hl]; omega), he]
    have hs := Try.size8
    cases hq : Try.prog.info? 5 with
    | none => simp [hq] at hs
    | some i =>
      have hi : i.size = 1 := by simpa [hq] using hs
      have e1 : ((a : Int) + n).toNat = a + n := by omega
      simp [sizeOf, typeInfo, hq, hi, slicedAt, e1]
  · rw [if_neg (by omega), Nat.mul_one]
    congr 1
    unfold Addr.add
    split <;> simp_all
set_option maxHeartbeats 400000 in
theorem piece_yes (gR gF m : Nat) (F : Nat → List Nat) (bad : Nat → Bool) (f a n : Nat) (w : World) (h : Mem w gR gF m F bad) (hf : f < m) (hi : a + n ≤ 64) (hb : bad f = false) :
    Calls Try.prog 66 #[.pointer (some ⟨gR, 0, none⟩), .int .i64 f, .int .i64 a, .int .i64 n] w (PieceAt gF (f * 65 + a) n w) := by
  have HH := Lib.hid (has_yes gR gF m F bad f w h hf)
  have hc := h.head
  have hm := h.mark hf
  rw [hb] at hm
  clear h hb
  have t2 : decide ((a : Int) < 0) = false := decide_eq_false (by omega)
  have t4 : (0 : Int) ≤ a := by omega
  have t7 : (f : Int) < (m : Int) := by omega
  have t8 : (0 : Int) ≤ (f : Int) := by omega
  have t1 : decide ((n : Int) < 0) = false := decide_eq_false (by omega)
  have t3 : (0 : Int) ≤ n := by omega
  have t5 : (a : Int) ≤ 64 - n := by omega
  have t6 : decide (64 - (n : Int) < a) = false := decide_eq_false (by omega)
  obtain ⟨A, hs, hA⟩ := slice_lhm w gF (f * 65) a n hi
  have HA := Lib.hid hA
  clear hA
  go_enter Try.func66, Try.ntmps66
  go_wp2_with fail
  refine HH.out.mono ?_
  rintro e w1 ⟨rfl, rfl⟩
  go_wp2
  go_ret2
  exact ⟨_, rfl, HA.out, rfl⟩
end Go.Proofs.Ytegoookllckhiaa

/-! ## RamB: The contracts of ram's New, Read, Write, Copy, Zero and Poison: what each answers, and what the memory holds behind it.   Conditions: the memory is known whole; what is written is read in memory. -/
namespace Go.Proofs.Ytegoookllckhiaa
open Go.RowKit
set_option linter.unusedVariables false

section
variable {w w' : World} {gR gF n : Nat} {F : Nat → List Nat} {bad : Nat → Bool}
theorem Mem.ne (h : Mem w gR gF n F bad) : gR ≠ gF := by
  obtain ⟨cur, h1, h2, _⟩ := h
  rintro rfl
  unfold Blk at h1 h2
  rw [h1] at h2
  injection h2 with h2
  injection h2 with _ ht
  exact absurd ht (by decide)
theorem Mem.lt (h : Mem w gR gF n F bad) : gR < w.heap.size ∧ gF < w.heap.size := by
  obtain ⟨cur, h1, h2, _⟩ := h
  exact ⟨h1.lt, h2.lt⟩
theorem Mem.far (h : Mem w gR gF n F bad) (hR : w'.heap[gR]? = w.heap[gR]?) (hF : w'.heap[gF]? = w.heap[gF]?) : Mem w' gR gF n F bad := by
  obtain ⟨cur, h1, h2, h3⟩ := h
  exact ⟨cur, hR.trans h1, hF.trans h2, h3⟩
theorem Mem.below (h : Mem w gR gF n F bad) {B : Nat} (hb : Below B w w') (hR : gR < B) (hF : gF < B) : Mem w' gR gF n F bad := h.far (hb.block _ hR) (hb.block _ hF)
theorem Mem.alloc (h : Mem w gR gF n F bad) (o : Obj) : Mem (w.alloc o) gR gF n F bad := h.far (Below.heap_alloc w o gR h.lt.1) (Below.heap_alloc w o gF h.lt.2)
theorem Mem.only (h : Mem w gR gF n F bad) {g : Nat} (ho : Only g w w') (hR : gR ≠ g) (hF : gF ≠ g) : Mem w' gR gF n F bad :=
  h.far (ho.1.block _ h.lt.1 (fun e => hR (by injection e))) (ho.1.block _ h.lt.2 (fun e => hF (by injection e)))
theorem Mem.bytes (h : Mem w gR gF n F bad) {f a : Nat} {ys : List Nat} (hf : f < n) (ha : a + ys.length ≤ 64) (hy : ∀ y ∈ ys, y < 256) (ho : Only gF w w')
    (hx : ∀ cur, Blk w gF 85 cur → f * 65 + a + ys.length ≤ cur.size → ∃ cur', Blk w' gF 85 cur' ∧ Over cur cur' (f * 65 + a) (ys.map bv)) : Mem w' gR gF n (upd F f (over (F f) a ys)) bad := by
  have hne := h.ne
  obtain ⟨cur, h1, h2, h3, h4, h5⟩ := h
  obtain ⟨cur', k1, k2, k3⟩ := hx cur h2 (by omega)
  refine ⟨cur', ho.blk h1 hne, k1, by omega, h4, fun k hk => ?_⟩
  obtain ⟨b1, b2, b3, b4⟩ := h5 k hk
  simp only [List.length_map] at k3
  by_cases e : k = f
  · subst e
    rw [upd_same]
    have hov := over_getD (F k) a ys (by omega)
    refine ⟨by rw [over_length _ _ _ (by omega), b1], fun y hy' => ?_, fun i hi => ?_, ?_⟩
    · simp only [Proofs.Ytegoookllckhiaa.over, List.mem_append] at hy'
      rcases hy' with hy' | hy' | hy'
      · exact b2 y (List.mem_of_mem_take hy')
      · exact hy y hy'
      · exact b2 y (List.mem_of_mem_drop hy')
    · rw [k3, hov]
      by_cases c : a ≤ i ∧ i < a + ys.length
      · rw [if_pos (by omega), if_pos c, show k * 65 + i - (k * 65 + a) = i - a by omega]
        have hj : i - a < ys.length := by omega
        simp [hj]
      · rw [if_neg (by omega), if_neg c]
        exact b3 i hi
    · rw [k3, if_neg (by omega)]
      exact b4
  · rw [upd_other F f _ e]
    refine ⟨b1, b2, fun i hi => ?_, ?_⟩
    · rw [k3, if_neg (by omega)]
      exact b3 i hi
    · rw [k3, if_neg (by omega)]
      exact b4
theorem Mem.poison (h : Mem w gR gF n F bad) {f : Nat} (hf : f < n) : Mem (w.setCell ⟨gF, f * 65 + 64, none⟩ (.bool true)) gR gF n F (upd bad f true) ∧ Only gF w (w.setCell ⟨gF, f * 65 + 64, none⟩ (.bool true)) := by
  have ho : Only gF w (w.setCell ⟨gF, f * 65 + 64, none⟩ (.bool true)) := (Only.refl gF w).setCell _ _
  refine ⟨?_, ho⟩
  have hne := h.ne
  obtain ⟨cur, h1, h2, h3, h4, h5⟩ := h
  obtain ⟨k2, k3⟩ := Over.one (cur := cur) (o := f * 65 + 64) (v := .bool true) (by omega)
  refine ⟨_, ho.blk h1 hne, h2.set_ _ _, by rw [k2]; omega, h4, fun k hk => ?_⟩
  obtain ⟨b1, b2, b3, b4⟩ := h5 k hk
  simp only [List.length_cons, List.length_nil] at k3
  refine ⟨b1, b2, fun i hi => by rw [k3, if_neg (by omega)]; exact b3 i hi, ?_⟩
  rw [k3]
  by_cases e : k = f
  · subst e
    rw [if_pos (by omega), upd_same]
    simp
  · rw [if_neg (by omega), upd_other _ _ _ e]
    exact b4
/-- A frame's bytes, from a on, as a slice. -/
theorem Mem.bts (h : Mem w gR gF n F bad) {f a k B : Nat} {A : Option Addr} (hf : f < n) (ha : a + k ≤ 64) (hA : 0 < k → A = some ⟨gF, f * 65 + a, none⟩) (hB : gF < B) : Bts w B (.slice A k k) (win (F f) a k) := by
  obtain ⟨cur, h1, h2, h3, h4, h5⟩ := h
  obtain ⟨b1, b2, b3, b4⟩ := h5 f hf
  have hwl := win_length (F f) a k (by omega)
  refine ⟨A, k, k, rfl, hwl, by unfold maxLen; omega, ⟨Nat.le_refl _, fun hn => ?_⟩, by unfold maxLen; omega, fun j hj => ?_, fun hk => ⟨gF, f * 65 + a, hA hk, hB, fun j hj => ?_⟩⟩
  · rcases Nat.eq_zero_or_pos k with h0 | h0
    · exact h0
    · rw [hA h0] at hn; cases hn
  · have := win_byte (F f) a k (fun j hj => by
      have := b2 _ (List.getElem_mem hj)
      simpa [hj] using this)
    have hj' : j < (win (F f) a k).length := by omega
    have := this _ (List.getElem_mem hj')
    simpa [hj'] using this
  · rw [h2.cell, show f * 65 + a + j = f * 65 + (a + j) by omega, b3 (a + j) (by omega)]
    have e : (win (F f) a k).getD j 0 = (F f).getD (a + j) 0 := by
      unfold win
      simp only [List.getD_eq_getElem?_getD]
      rw [List.getElem?_take, if_pos hj, List.getElem?_drop]
    rw [e]
    rfl
end

/-! ### Read, Write -/

/-- What Read leaves. -/
def ReadPost (w : World) (n : Nat) (ys : List Nat) (e : Ending) (w' : World) : Prop :=
  e = .returned (.tuple #[.slice (some ⟨w.heap.size, 0, none⟩) n n, .int .i64 0]) ∧ Blk w' w.heap.size 5 (ys.map bv).toArray ∧ Below w.heap.size w w' ∧ w'.heap.size = w.heap.size + 1

set_option maxHeartbeats 400000 in
theorem read_err (p : Option Addr) (f a n k : Int) (w : World) (hk : k ≠ 0) (h : Calls Try.prog 66 #[.pointer p, .int .i64 f, .int .i64 a, .int .i64 n] w fun e w' => e = .returned (.tuple #[.slice none 0 0, .int .i64 k]) ∧ w = w') :
    Calls Try.prog 68 #[.pointer p, .int .i64 f, .int .i64 a, .int .i64 n] w fun e w' => e = .returned (.tuple #[.slice none 0 0, .int .i64 k]) ∧ w = w' := by
  have H := Lib.hid h
  have t1 : (k != 0) = true := by rw [bne_iff_ne]; exact hk
  clear h hk
  go_enter Try.func68, Try.ntmps68
  go_wp2_with fail
  refine H.out.mono ?_
  rintro e w1 ⟨rfl, rfl⟩
  go_wp2
  go_ret2
  exact ⟨rfl, rfl⟩

set_option maxHeartbeats 400000 in
theorem read_yes (gR gF m : Nat) (F : Nat → List Nat) (bad : Nat → Bool) (f a n : Nat) (w : World) (h : Mem w gR gF m F bad) (hf : f < m) (hi : a + n ≤ 64) (hb : bad f = false) :
    Calls Try.prog 68 #[.pointer (some ⟨gR, 0, none⟩), .int .i64 f, .int .i64 a, .int .i64 n] w (ReadPost w n (win (F f) a n)) := by
  have HP := Lib.hid (piece_yes gR gF m F bad f a n w h hf hi hb)
  have hmk := make_zs n (by omega) w
  have HM := Lib.hid h
  have HL := Lib.hid (win_length (F f) a n (by have := h.long hf; omega))
  clear h hb
  go_enter Try.func68, Try.ntmps68
  go_wp2_with fail
  refine HP.out.mono ?_
  rintro e w1 ⟨A, rfl, hA, rfl⟩
  have HA := Lib.hid hA
  clear hA
  go_wp2_with (with_reducible refine wpList_copy_bts rfl (.tmp 26) (.tmp 27) 112 112 rfl 5 Try.underlying112 Try.size8 _ _ n n n n rfl rfl w.heap.size 0 (zs n) 5 (Blk.new w _ _) (win (F f) a n) w.heap.size ((HM.out.alloc _).bts hf hi HA.out HM.out.lt.2) (by rw [HL.out]; exact Nat.le_refl _) (fun _ => rfl) (by rw [HL.out, zs_size]; omega) ?_; intro w2 HB2 HO2)
  go_ret2
  refine ⟨rfl, ?_, (((Below.refl _ _).alloc (Nat.le_refl _) _).trans (HO2.out.below (Nat.le_refl _) (by simp))), by rw [HO2.out.2]; simp⟩
  have h2 := HB2.out
  rw [splice_zs n _ HL.out] at h2
  exact h2

set_option maxHeartbeats 400000 in
theorem write_err (p A : Option Addr) (l c : Nat) (f a k : Int) (w : World) (hk : k ≠ 0) (h : Calls Try.prog 66 #[.pointer p, .int .i64 f, .int .i64 a, .int .i64 l] w fun e w' => e = .returned (.tuple #[.slice none 0 0, .int .i64 k]) ∧ w = w') :
    Calls Try.prog 72 #[.pointer p, .int .i64 f, .int .i64 a, .slice A l c] w fun e w' => e = .returned (.int .i64 k) ∧ w = w' := by
  have H := Lib.hid h
  have t1 : (k != 0) = true := by rw [bne_iff_ne]; exact hk
  clear h hk
  go_enter Try.func72, Try.ntmps72
  go_wp2_with fail
  refine H.out.mono ?_
  rintro e w1 ⟨rfl, rfl⟩
  go_wp2
  go_ret
  exact ⟨rfl, rfl⟩

/-- What a call leaves that turns frames. -/
def TurnPost (w : World) (gR gF m : Nat) (F : Nat → List Nat) (bad : Nat → Bool) (r : Value) (e : Ending) (w' : World) : Prop := e = .returned r ∧ Mem w' gR gF m F bad ∧ Only gF w w'

set_option maxHeartbeats 400000 in
theorem write_yes (gR gF m : Nat) (F : Nat → List Nat) (bad : Nat → Bool) (f a B : Nat) (v0 : Value) (xs : List Nat) (w : World) (h : Mem w gR gF m F bad) (hf : f < m) (hi : a + xs.length ≤ 64) (hb : bad f = false) (hx : Bts w B v0 xs) :
    Calls Try.prog 72 #[.pointer (some ⟨gR, 0, none⟩), .int .i64 f, .int .i64 a, v0] w (TurnPost w gR gF m (upd F f (over (F f) a xs)) bad (.int .i64 0)) := by
  have HX := Lib.hid hx
  obtain ⟨A0, l0, c0, rfl, hl, -⟩ := hx
  rw [hl] at hi
  have HL := Lib.hid hl
  clear hl
  have HP := Lib.hid (piece_yes gR gF m F bad f a l0 w h hf hi hb)
  have HM := Lib.hid h
  clear h hb
  obtain ⟨cur, hcur, hsz⟩ : ∃ cur, Blk w gF 85 cur ∧ f * 65 + a + l0 ≤ cur.size := by
    obtain ⟨cur, _, h2, h3, _⟩ := HM.out
    exact ⟨cur, h2, by omega⟩
  have HC := Lib.hid hcur
  have HZ := Lib.hid hsz
  clear hcur hsz
  go_enter Try.func72, Try.ntmps72
  go_wp2_with fail
  refine HP.out.mono ?_
  rintro e w1 ⟨A, rfl, hA, rfl⟩
  have HA := Lib.hid hA
  clear hA
  go_wp2_with (with_reducible refine wpList_copy_bts rfl (.tmp 23) (.tmp 24) 112 112 rfl 5 Try.underlying112 Try.size8 _ _ l0 l0 l0 c0 rfl rfl gF (f * 65 + a) cur 85 HC.out xs B HX.out (by rw [HL.out]; exact Nat.le_refl _) (fun h0 => HA.out (by rw [HL.out] at h0; exact h0)) (by rw [HL.out]; exact HZ.out) ?_; intro w2 HB2 HO2)
  go_ret
  refine ⟨rfl, HM.out.bytes hf (by rw [HL.out]; exact hi) HX.out.byte HO2.out (fun cur2 h2 hs2 => ?_), HO2.out⟩
  have e : cur2 = cur := by
    have h1 := HC.out
    unfold Blk at h1 h2
    rw [h1] at h2
    injection h2 with h2
    injection h2 with h2
    exact h2.symm
  subst e
  exact ⟨_, HB2.out, Over.splice_ (by simpa using hs2)⟩
end Go.Proofs.Ytegoookllckhiaa

/-! ## RamC: The contracts of ram's Zero, Poison, Copy and New, and of the document's Cut.   Conditions: the memory is known whole. -/
namespace Go.Proofs.Ytegoookllckhiaa
open Go.RowKit
set_option linter.unusedVariables false

section
variable {w : World} {gR gF n : Nat} {F : Nat → List Nat} {bad : Nat → Bool}
theorem Mem.there_ (h : Mem w gR gF n F bad) {f : Nat} (hf : f < n) : w.there gF (f * 65) 64 := by
  obtain ⟨cur, h1, h2, h3, h4, h5⟩ := h
  intro j hj
  obtain ⟨b1, b2, b3, b4⟩ := h5 f hf
  exact ⟨by rw [h2.cell, b3 j hj]; rfl, h2.frozen _⟩
theorem Mem.range_ (h : Mem w gR gF n F bad) {f : Nat} (hf : f < n) : w.rangeAt gF (f * 65) ((F f).map bv) := by
  obtain ⟨cur, h1, h2, h3, h4, h5⟩ := h
  obtain ⟨b1, b2, b3, b4⟩ := h5 f hf
  intro j v hv
  have hj : j < (F f).length := by
    have := (List.getElem?_eq_some_iff.1 hv).1
    simpa using this
  rw [h2.cell, b3 j (by omega)]
  simp [hj] at hv ⊢
  exact hv
/-- Bytes laid into a frame cell by cell. -/
theorem Mem.cells (h : Mem w gR gF n F bad) {f : Nat} {ys : List Nat} (hf : f < n) (hl : ys.length = 64) (hy : ∀ y ∈ ys, y < 256) :
    Mem (w.setCells gF (f * 65) (ys.map bv)) gR gF n (upd F f ys) bad ∧ Only gF w (w.setCells gF (f * 65) (ys.map bv)) := by
  have ho : Only gF w (w.setCells gF (f * 65) (ys.map bv)) := Only.setCells _ _ (Only.refl _ _)
  refine ⟨?_, ho⟩
  have h1 := h.bytes (a := 0) (ys := ys) hf (by omega) hy ho (fun cur hc hs => Blk.setCells _ _ hc (by simpa using hs))
  rw [over_all _ _ (by rw [h.long hf, hl])] at h1
  exact h1
theorem Mem.drew (h : Mem w gR gF n F bad) : Mem w.drew gR gF n F bad := h
theorem Mem.byte (h : Mem w gR gF n F bad) {f : Nat} (hf : f < n) : ∀ y ∈ F f, y < 256 := by
  obtain ⟨cur, h1, h2, h3, h4, h5⟩ := h
  exact (h5 f hf).2.1
end

set_option maxHeartbeats 400000 in
theorem zero_err (p : Option Addr) (f k : Int) (w : World) (hk : k ≠ 0) (h : Calls Try.prog 66 #[.pointer p, .int .i64 f, .int .i64 0, .int .i64 64] w fun e w' => e = .returned (.tuple #[.slice none 0 0, .int .i64 k]) ∧ w = w') :
    Calls Try.prog 49 #[.pointer p, .int .i64 f] w fun e w' => e = .returned (.int .i64 k) ∧ w = w' := by
  have H := Lib.hid h
  have t1 : (k != 0) = true := by rw [bne_iff_ne]; exact hk
  clear h hk
  go_enter Try.func49, Try.ntmps49
  go_wp2_with fail
  refine H.out.mono ?_
  rintro e w1 ⟨rfl, rfl⟩
  go_wp2
  go_ret
  exact ⟨rfl, rfl⟩

set_option maxHeartbeats 400000 in
theorem zero_yes (gR gF m : Nat) (F : Nat → List Nat) (bad : Nat → Bool) (f : Nat) (w : World) (h : Mem w gR gF m F bad) (hf : f < m) (hb : bad f = false) :
    Calls Try.prog 49 #[.pointer (some ⟨gR, 0, none⟩), .int .i64 f] w (TurnPost w gR gF m (upd F f zer) bad (.int .i64 0)) := by
  have HP := Lib.hid (piece_yes gR gF m F bad f 0 64 w h hf (by omega) hb)
  have hz := h.cells (ys := zer) hf zer_length zer_byte
  have hth := h.there_ hf
  obtain ⟨W, hW⟩ : ∃ W, W = w.setCells gF (f * 65) (zer.map bv) := ⟨_, rfl⟩
  have hcl : ∀ ty, (Builtin.clear_ #[112] ty #[.slice (some ⟨gF, f * 65, none⟩) 64 64]).run Try.prog w = .ok (.tuple #[]) W := fun ty => by
    rw [Lib.run_clear_slice w 112 5 ty (.int .u8 0) Try.underlying112 Try.zero8 rfl rfl gF (f * 65) 64 64 (by omega) (fun j hj => (hth j hj).1) (fun j hj => (hth j hj).2), hW, zer, List.map_replicate]
    rfl
  rw [← hW] at hz
  have HZ := Lib.hid hz
  clear hz h hb hth hW
  go_enter Try.func49, Try.ntmps49
  go_wp2_with fail
  refine HP.out.mono ?_
  rintro e w1 ⟨A, rfl, hA, rfl⟩
  obtain rfl := hA (by omega)
  clear hA
  go_wp2
  go_ret
  exact ⟨rfl, HZ.out.1, HZ.out.2⟩

set_option maxHeartbeats 400000 in
theorem poison_none (p : Option Addr) (f : Int) (w : World) (h : Calls Try.prog 42 #[.pointer p, .int .i64 f] w fun e w' => e = .returned (.bool false) ∧ w = w') :
    Calls Try.prog 22 #[.pointer p, .int .i64 f] w fun e w' => e = .returned (.bool false) ∧ w = w' := by
  have H := Lib.hid h
  clear h
  go_enter Try.func22, Try.ntmps22
  go_wp2_with fail
  refine H.out.mono ?_
  rintro e w1 ⟨rfl, rfl⟩
  go_wp2
  go_ret
  exact ⟨rfl, rfl⟩
set_option maxHeartbeats 400000 in
theorem poison_bad (gR gF m : Nat) (F : Nat → List Nat) (bad : Nat → Bool) (f : Nat) (w : World) (h : Mem w gR gF m F bad) (hf : f < m) (hb : bad f = true) :
    Calls Try.prog 22 #[.pointer (some ⟨gR, 0, none⟩), .int .i64 f] w fun e w' => e = .returned (.bool false) ∧ w = w' := by
  have HH := Lib.hid (has_yes gR gF m F bad f w h hf)
  have hc := h.head
  have hm := h.mark hf
  rw [hb] at hm
  clear h hb
  have t7 : (f : Int) < (m : Int) := by omega
  have t8 : (0 : Int) ≤ (f : Int) := by omega
  go_enter Try.func22, Try.ntmps22
  go_wp2_with fail
  refine HH.out.mono ?_
  rintro e w1 ⟨rfl, rfl⟩
  go_wp2
  go_ret
  exact ⟨rfl, rfl⟩
set_option maxHeartbeats 400000 in
theorem poison_yes (gR gF m : Nat) (F : Nat → List Nat) (bad : Nat → Bool) (f : Nat) (w : World) (h : Mem w gR gF m F bad) (hf : f < m) (hb : bad f = false) :
    Calls Try.prog 22 #[.pointer (some ⟨gR, 0, none⟩), .int .i64 f] w (TurnPost w gR gF m F (upd bad f true) (.bool true)) := by
  have HH := Lib.hid (has_yes gR gF m F bad f w h hf)
  have hc := h.head
  have hm := h.mark hf
  have HP := Lib.hid (h.poison hf)
  have hfz : w.frozen? ⟨gF, f * 65 + 64, none⟩ = false := by
    obtain ⟨cur, _, h2, _⟩ := h
    exact h2.frozen _
  rw [hb] at hm
  clear h hb
  have t7 : (f : Int) < (m : Int) := by omega
  have t8 : (0 : Int) ≤ (f : Int) := by omega
  go_enter Try.func22, Try.ntmps22
  go_wp2_with fail
  refine HH.out.mono ?_
  rintro e w1 ⟨rfl, rfl⟩
  go_wp2
  go_ret
  exact ⟨rfl, HP.out.1, HP.out.2⟩
end Go.Proofs.Ytegoookllckhiaa

/-! ## RamD: The contracts of ram's Copy and New, and of the document's Cut.   Conditions: the memory is known whole. -/
namespace Go.Proofs.Ytegoookllckhiaa
open Go.RowKit
/-- What the region that copies a frame reads and writes stands behind its store, too. -/
theorem copy_keeps (gR gF f t : Nat) (u : Value) (cs : List Value) (hl : cs.length = 64) (hne : gR ≠ gF) (W : World) (h1 : W.cell? ⟨gR, 0, none⟩ = some u) (h2 : W.rangeAt gF (f * 65) cs) (h3 : W.there gF (t * 65) 64) :
    (W.setCells gF (t * 65) cs).cell? ⟨gR, 0, none⟩ = some u ∧ (W.setCells gF (t * 65) cs).rangeAt gF (f * 65) cs ∧ (W.setCells gF (t * 65) cs).there gF (t * 65) 64 := by
  refine ⟨?_, ?_, World.there_setCells h3 _ _ _⟩
  · rw [World.cell?_setCells_out _ _ _ _ _ (fun e _ => absurd e hne), h1]
  · by_cases e : f = t
    · subst e
      exact World.rangeAt_setCells_same _ _ _ _ (by rw [hl]; exact h3)
    · exact World.rangeAt_setCells_apart h2 _ _ _ (by omega)
theorem Try.size64 : (Try.prog.info? 83).map (·.size) = some 64 := by kernel_rfl
/-! ### New -/

/-- A frame's cells as made. -/
def frm0 : Array Value := ⟨List.replicate 64 (.int .u8 0) ++ [.bool false]⟩
theorem Try.infoFrame : (Try.prog.info? 85).map (fun i => (i.zero.map (·.cells), i.size, decide (i.bytes ≤ 100))) = some (some frm0, 65, true) := by kernel_rfl
/-- So many frames' cells as made. -/
def frames0 (n : Nat) : Array Value := madeCells frm0 (n * 65)
theorem frames0_size (n : Nat) : (frames0 n).size = n * 65 := by simp [frames0, madeCells]
theorem frm0_size : frm0.size = 65 := rfl
theorem frames0_at (n f i : Nat) (hf : f < n) (hi : i < 65) : (frames0 n)[f * 65 + i]? = frm0[i]? := by
  have e : (f * 65 + i) % 65 = i := by omega
  have hi' : i < frm0.size := by rw [frm0_size]; exact hi
  have hr : f * 65 + i < n * 65 := by omega
  unfold frames0 madeCells
  rw [Array.getElem?_map, Array.getElem?_range, if_pos hr]
  simp only [Option.map_some, frm0_size, e]
  rw [getElem!_pos frm0 i hi', Array.getElem?_eq_getElem hi']
theorem make_frames (n : Nat) (hn : n ≤ 1024) (w : World) : (Instr.makeSlice 86 (.int .i64 (n : Int)) (.int .i64 (n : Int))).run Try.prog w = .ok (.slice (some ⟨w.heap.size, 0, none⟩) n n) (w.alloc (.cells (frames0 n) 85)) := by
  have h := Try.infoFrame
  cases hq : Try.prog.info? 85 with
  | none => rw [hq] at h; cases h
  | some i =>
    rw [hq] at h
    simp only [Option.map_some, Option.some.injEq, Prod.mk.injEq, decide_eq_true_eq] at h
    obtain ⟨h1, h2, h3⟩ := h
    obtain ⟨z, hz, hzc⟩ := Option.map_eq_some_iff.1 h1
    have hr := run_make (P := Try.prog) w _ _ i z Try.underlying86 hq hz .i64 .i64 n n (by omega) (by omega) (by
      have : (i.bytes : Int) ≤ 100 := by omega
      have h5 : (n : Int) ≤ 1024 := by omega
      have h6 : (i.bytes : Int) * n ≤ 100 * 1024 := Int.mul_le_mul this h5 (by omega) (by omega)
      omega) (by omega)
    simp only [Int.toNat_natCast, h2, hzc] at hr
    exact hr
/-- What New leaves. -/
def NewPost (w : World) (n : Nat) (e : Ending) (w' : World) : Prop :=
  e = .returned (.pointer (some ⟨w.heap.size + 1, 0, none⟩)) ∧ Mem w' (w.heap.size + 1) w.heap.size n (fun _ => zer) (fun _ => false) ∧ Below w.heap.size w w' ∧ w'.heap.size = w.heap.size + 2
theorem new_mem (w : World) (n : Nat) (hn : n ≤ 1024) :
    Mem ((w.alloc (.cells (frames0 n) 85)).alloc (.cells #[.slice (some ⟨w.heap.size, 0, none⟩) n n] 88)) (w.heap.size + 1) w.heap.size n (fun _ => zer) (fun _ => false) := by
  have h1 : Blk ((w.alloc (.cells (frames0 n) 85)).alloc (.cells #[.slice (some ⟨w.heap.size, 0, none⟩) n n] 88)) (w.heap.size + 1) 88 #[.slice (some ⟨w.heap.size, 0, none⟩) n n] := by
    have := Blk.new (w.alloc (.cells (frames0 n) 85)) 88 #[.slice (some ⟨w.heap.size, 0, none⟩) n n]
    simpa using this
  have h2 : Blk ((w.alloc (.cells (frames0 n) 85)).alloc (.cells #[.slice (some ⟨w.heap.size, 0, none⟩) n n] 88)) w.heap.size 85 (frames0 n) :=
    (Below.heap_alloc _ _ _ (by simp)).trans (Blk.new w _ _)
  refine ⟨frames0 n, h1, h2, frames0_size n, hn, fun f hf => ⟨zer_length, zer_byte, fun i hi => ?_, ?_⟩⟩
  · rw [frames0_at n f i hf (by omega)]
    have e : frm0[i]? = some (.int .u8 0) := by
      unfold frm0
      rw [List.getElem?_toArray, List.getElem?_append_left (by simpa using hi), List.getElem?_replicate, if_pos hi]
    have e2 : zer.getD i 0 = 0 := by
      unfold zer
      simp only [List.getD_eq_getElem?_getD, List.getElem?_replicate, hi, if_true, Option.getD_some]
    rw [e, e2]
    rfl
  · rw [frames0_at n f 64 hf (by omega)]
    unfold frm0
    rw [List.getElem?_toArray, List.getElem?_append_right (by simp)]
    simp

/-- As near to that as 0 to 1024 allow. -/
def Near (frames : Int) (n : Nat) : Prop := (frames ≤ 0 ∧ n = 0) ∨ (1024 ≤ frames ∧ n = 1024) ∨ (0 ≤ frames ∧ frames ≤ 1024 ∧ frames = n)

set_option maxHeartbeats 400000 in
theorem new_any (frames : Int) (n : Nat) (w : World) (h : Near frames n) : Calls Try.prog 24 #[.int .i64 frames] w (NewPost w n) := by
  have hn : n ≤ 1024 := by unfold Near at h; omega
  have HM := Lib.hid (new_mem w n hn)
  have HB := Lib.hid (show Below w.heap.size w ((w.alloc (.cells (frames0 n) 85)).alloc (.cells #[.slice (some ⟨w.heap.size, 0, none⟩) n n] 88)) from
    ((Below.refl _ _).alloc (Nat.le_refl _) _).alloc (by simp) _)
  have hmk := make_frames n hn w
  unfold Near at h
  by_cases c1 : frames < 0
  · obtain rfl : n = 0 := by omega
    have hmk' : (Instr.makeSlice 86 (.int .i64 0) (.int .i64 0)).run Try.prog w = .ok (.slice (some ⟨w.heap.size, 0, none⟩) 0 0) (w.alloc (.cells (frames0 0) 85)) := hmk
    clear hmk h
    go_enter Try.func24, Try.ntmps24
    go_wp2
    go_ret
    exact ⟨rfl, HM.out, HB.out, by simp⟩
  · by_cases c2 : 1024 < frames
    · obtain rfl : n = 1024 := by omega
      have hmk' : (Instr.makeSlice 86 (.int .i64 1024) (.int .i64 1024)).run Try.prog w = .ok (.slice (some ⟨w.heap.size, 0, none⟩) 1024 1024) (w.alloc (.cells (frames0 1024) 85)) := hmk
      clear hmk h
      go_enter Try.func24, Try.ntmps24
      go_wp2
      go_ret
      exact ⟨rfl, HM.out, HB.out, by simp⟩
    · obtain rfl : frames = n := by omega
      clear c1 h
      go_enter Try.func24, Try.ntmps24
      go_wp2
      go_ret
      exact ⟨rfl, HM.out, HB.out, by simp⟩

end Go.Proofs.Ytegoookllckhiaa
