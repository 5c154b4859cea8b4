/-
  WordBounds answers true for every size, place and count, and writes nothing that was there.
  Conditions: none beside the kinds' own ranges.
-/
import Derived.Test.YtbnnjlaijhdbkaaAnswers
namespace Go.Proofs.Ytbnnjlaijhdbkaa
open Go.RowKit
set_option linter.unusedVariables false

def zerosA (n : Nat) : Array Value := Array.replicate n (bv 0)
theorem zerosA_size (n : Nat) : (zerosA n).size = n := by simp [zerosA]
theorem makeB (n : Nat) (h : n ≤ 65536) (w : World) : (Instr.makeSlice 22 (.int .i64 (n : Int)) (.int .i64 (n : Int))).run Try.prog w = .ok (.slice (some ⟨w.heap.size, 0, none⟩) n n) (w.alloc (.cells (zerosA n) 5)) := by
  obtain ⟨i0, hi, hz0, hz1, hz2⟩ := info_parts Try.info5
  rw [run_make w 22 5 i0 _ Try.underlying22 hi hz0 .i64 .i64 n n (by omega) (by omega) (by rw [hz2]; omega) (by omega), hz1]
  have e : madeCells (Value.int .u8 0).cells (((n : Int)).toNat * 1) = zerosA n := by
    apply Array.ext
    · simp [madeCells, zerosA]
    · intro j h1 h2
      simp [madeCells, zerosA, Value.cells, bv, Nat.mod_one]
  rw [e]
  simp

theorem zeros_bts {w : World} {g n : Nat} (h : Blk w g 5 (zerosA n)) (hn : n ≤ 65536) : Bts w w.heap.size (.slice (some ⟨g, 0, none⟩) n n) (List.replicate n 0) :=
  Bts.of_blk h h.lt (by simp) (by omega) (by unfold maxLen; omega) (fun j hj => by simp [hj]) (fun j hj => by simp [hj, zerosA])
theorem getV_zeros (n : Nat) (k m : Int) : getV (List.replicate n 0) k m = 0 := by
  unfold getV win
  have h : ∀ j, le (List.replicate j 0) = 0 := by
    intro j
    have := le_zeros [] j
    simpa [le] using this
  rw [List.drop_replicate, List.take_replicate, h]
  rfl

/-- All that stands behind the second line, once it is known what is answered at the place. -/
def Rest (g : Nat) (w W : World) (L k m : Nat) (ok : Bool) : Prop :=
  Calls Try.prog 9 #[.slice (some ⟨g, 0, none⟩) L L, .int .i64 (k : Int), .int .i64 (m : Int)] W (fun e w' => e = .returned (.tuple #[.int .u64 0, .bool ok]) ∧ W = w') ∧
  ∀ w1, Below W.heap.size W w1 → Calls Try.prog 11 #[.slice (some ⟨g, 0, none⟩) L L, .int .i64 (k : Int), .int .u64 1, .int .i64 (m : Int)] w1 (fun e w' => e = .returned (.bool ok) ∧ Below w.heap.size w1 w')

theorem rest_any (w : World) (L k m : Nat) (hL : L ≤ 19) :
    Rest w.heap.size w (w.alloc (.cells (zerosA L) 5)) L k m (decide (m ≤ 8 ∧ k + m ≤ L)) := by
  have hb : Blk (w.alloc (.cells (zerosA L) 5)) w.heap.size 5 (zerosA L) := Blk.new w _ _
  have hs : (w.alloc (.cells (zerosA L) 5)).heap.size = w.heap.size + 1 := by simp
  have hbt := zeros_bts hb (by omega)
  by_cases h : m ≤ 8 ∧ k + m ≤ L
  · rw [decide_eq_true h]
    refine ⟨?_, fun w1 h1 => ?_⟩
    · have := get_yes _ _ _ k m _ hbt (by unfold Fit; simp; omega)
      rw [getV_zeros] at this
      exact this
    · have hb1 := hb.below h1 hb.lt
      refine (put_yes w.heap.size 0 L L 1 5 (zerosA L) k m w1 (by unfold maxLen; omega) (by unfold Fit; omega) hb1 (by rw [zerosA_size]; omega)).mono ?_
      rintro e w' ⟨rfl, hp⟩
      exact ⟨rfl, hp.below (Nat.le_refl _) (by have := h1.size; omega)⟩
  · rw [decide_eq_false h]
    have hf : NoFit L k m := by unfold NoFit; omega
    refine ⟨get_no _ _ _ _ _ _ (by unfold maxLen; omega) hf, fun w1 h1 => ?_⟩
    refine (put_no (some ⟨w.heap.size, 0, none⟩) L L 1 k m w1 (by unfold maxLen; omega) hf).mono ?_
    rintro e w' ⟨rfl, rfl⟩
    exact ⟨rfl, Below.refl _ _⟩

set_option maxHeartbeats 400000 in
theorem bounds_any (L k m : Nat) (s a n : Int) (w : World) (hs : 0 ≤ s) (ha : 0 ≤ a) (hn : 0 ≤ n) (hL : s % 20 = (L : Int)) (hk : a % 24 = (k : Int)) (hm : n % 12 = (m : Int)) :
    Calls Try.prog 6 #[.int .u8 s, .int .u8 a, .int .u8 n] w fun e w' => e = .returned (.bool true) ∧ Below w.heap.size w w' := by
  have l1 : L ≤ 19 := by omega
  have l2 : k ≤ 23 := by omega
  have l3 : m ≤ 11 := by omega
  have hmk := makeB L (by omega)
  have hr := rest_any w L k m l1
  obtain ⟨ok, hok⟩ : ∃ ok, ok = decide (m ≤ 8 ∧ k + m ≤ L) := ⟨_, rfl⟩
  rw [← hok] at hr
  have HR := Lib.hid hr
  clear hr
  have N1 := Lib.hid (show ∀ w1, Calls Try.prog 11 #[.slice (some ⟨w.heap.size, 0, none⟩) L L, .int .i64 (-1), .int .u64 1, .int .i64 1] w1 fun e w' => e = .returned (.bool false) ∧ w1 = w' from fun w1 => put_no (some ⟨w.heap.size, 0, none⟩) L L 1 (-1) 1 w1 (by unfold maxLen; omega) (by unfold NoFit; omega))
  have N2 := Lib.hid (show ∀ w1, Calls Try.prog 11 #[.slice (some ⟨w.heap.size, 0, none⟩) L L, .int .i64 0, .int .u64 1, .int .i64 (-1)] w1 fun e w' => e = .returned (.bool false) ∧ w1 = w' from fun w1 => put_no (some ⟨w.heap.size, 0, none⟩) L L 1 0 (-1) w1 (by unfold maxLen; omega) (by unfold NoFit; omega))
  have N3 := Lib.hid (show ∀ w1, Calls Try.prog 11 #[.slice none 0 0, .int .i64 0, .int .u64 1, .int .i64 1] w1 fun e w' => e = .returned (.bool false) ∧ w1 = w' from fun w1 => put_no none 0 0 1 0 1 w1 (by unfold maxLen; omega) (by unfold NoFit; omega))
  have N4 := Lib.hid (show ∀ w1, Calls Try.prog 11 #[.slice none 0 0, .int .i64 0, .int .u64 1, .int .i64 0] w1 fun e w' => e = .returned (.bool true) ∧ w1 = w' from fun w1 => put_zero none 0 0 1 0 w1 (by unfold maxLen; omega) (by unfold Fit; omega))
  have HA := Lib.hid (show Below w.heap.size w (w.alloc (.cells (zerosA L) 5)) from (Below.refl _ _).alloc (Nat.le_refl _) _)
  by_cases h8 : m ≤ 8
  · by_cases hkl : k + m ≤ L
    · obtain rfl : ok = true := by rw [hok]; exact decide_eq_true ⟨h8, hkl⟩
      clear hok
      go_enter Try.func6, Try.ntmps6
      go_wp2_with fail
      refine HR.out.1.mono ?_
      rintro e w1 ⟨rfl, rfl⟩
      go_wp2_with fail
      refine (answers_any _).mono ?_
      rintro e w1 ⟨rfl, hb1⟩
      have HP := Lib.hid (HR.out.2 w1 hb1)
      have HB1 := Lib.hid (HA.out.trans (hb1.mono HA.out.size))
      clear hb1
      go_wp2_with fail
      refine HP.out.mono ?_
      rintro e w2 ⟨rfl, hb2⟩
      have HB2 := Lib.hid (HB1.out.trans hb2)
      clear hb2
      go_wp2_with fail
      refine (N1.out _).mono ?_
      rintro e w3 ⟨rfl, rfl⟩
      go_wp2_with fail
      refine (N2.out _).mono ?_
      rintro e w3 ⟨rfl, rfl⟩
      go_wp2_with fail
      refine (N3.out _).mono ?_
      rintro e w3 ⟨rfl, rfl⟩
      go_wp2_with fail
      refine (N4.out _).mono ?_
      rintro e w3 ⟨rfl, rfl⟩
      go_wp2
      go_ret
      exact ⟨rfl, HB2.out⟩
    · obtain rfl : ok = false := by rw [hok]; exact decide_eq_false (fun h => hkl h.2)
      have hd : decide ((k : Int) + (m : Int) ≤ (L : Int)) = false := by simp; omega
      clear hok
      go_enter Try.func6, Try.ntmps6
      go_wp2_with fail
      refine HR.out.1.mono ?_
      rintro e w1 ⟨rfl, rfl⟩
      go_wp2_with fail
      refine (answers_any _).mono ?_
      rintro e w1 ⟨rfl, hb1⟩
      have HP := Lib.hid (HR.out.2 w1 hb1)
      have HB1 := Lib.hid (HA.out.trans (hb1.mono HA.out.size))
      clear hb1
      go_wp2_with fail
      refine HP.out.mono ?_
      rintro e w2 ⟨rfl, hb2⟩
      have HB2 := Lib.hid (HB1.out.trans hb2)
      clear hb2
      go_wp2_with fail
      refine (N1.out _).mono ?_
      rintro e w3 ⟨rfl, rfl⟩
      go_wp2_with fail
      refine (N2.out _).mono ?_
      rintro e w3 ⟨rfl, rfl⟩
      go_wp2_with fail
      refine (N3.out _).mono ?_
      rintro e w3 ⟨rfl, rfl⟩
      go_wp2_with fail
      refine (N4.out _).mono ?_
      rintro e w3 ⟨rfl, rfl⟩
      go_wp2
      go_ret
      exact ⟨rfl, HB2.out⟩
  · obtain rfl : ok = false := by rw [hok]; exact decide_eq_false (fun h => h8 h.1)
    have hd : decide ((m : Int) ≤ 8) = false := by simp; omega
    have h8' : (8 : Int) < (m : Int) := by omega
    clear hok
    go_enter Try.func6, Try.ntmps6
    go_wp2_with fail
    refine HR.out.1.mono ?_
    rintro e w1 ⟨rfl, rfl⟩
    go_wp2_with fail
    refine (answers_any _).mono ?_
    rintro e w1 ⟨rfl, hb1⟩
    have HP := Lib.hid (HR.out.2 w1 hb1)
    have HB1 := Lib.hid (HA.out.trans (hb1.mono HA.out.size))
    clear hb1
    go_wp2_with fail
    refine HP.out.mono ?_
    rintro e w2 ⟨rfl, hb2⟩
    have HB2 := Lib.hid (HB1.out.trans hb2)
    clear hb2
    go_wp2_with fail
    refine (N1.out _).mono ?_
    rintro e w3 ⟨rfl, rfl⟩
    go_wp2_with fail
    refine (N2.out _).mono ?_
    rintro e w3 ⟨rfl, rfl⟩
    go_wp2_with fail
    refine (N3.out _).mono ?_
    rintro e w3 ⟨rfl, rfl⟩
    go_wp2_with fail
    refine (N4.out _).mono ?_
    rintro e w3 ⟨rfl, rfl⟩
    go_wp2
    go_ret
    exact ⟨rfl, HB2.out⟩
end Go.Proofs.Ytbnnjlaijhdbkaa
