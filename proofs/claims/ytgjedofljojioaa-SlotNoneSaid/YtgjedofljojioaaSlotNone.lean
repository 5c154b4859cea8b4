/-
  SlotNone answers true for any bytes and any number, and writes nothing that was there.
  Conditions: none beside the kinds' own ranges.
-/
import Derived.Test.YtgjedofljojioaaSlotH
namespace Go.Proofs.Ytgjedofljojioaa
open Go.RowKit
set_option linter.unusedVariables false

set_option maxHeartbeats 400000 in
theorem slotNone_long (A : Option Addr) (l c : Nat) (p : Int) (w : World) (h : 900 < l) :
    Calls Try.prog 5 #[.slice A l c, .int .u8 p] w fun e w' => e = .returned (.bool true) ∧ Below w.heap.size w w' := by
  have t1 : decide ((900 : Int) < (l : Int)) = true := decide_eq_true (by omega)
  clear h
  go_enter Try.func5, Try.ntmps5
  go_wp2_with fail
  refine (slotAnswers_any _).mono ?_
  rintro e w1 ⟨rfl, hb⟩
  go_wp2
  go_ret
  exact ⟨rfl, hb⟩

/-- A disk that fails once: what is to come behind j works. -/
theorem tn_once (a j : Nat) : tn ⟨a, 1, false, 0, false⟩ j = ⟨a - j, if j ≤ a then 1 else 0, false, 0, false⟩ := by
  induction j with
  | zero => simp [tn]
  | succ j ih =>
    rw [tn, ih]
    unfold Tr.next
    rw [if_neg (by simp)]
    by_cases c : j < a
    · have c1 : 0 < a - j := by omega
      have c2 : j ≤ a := by omega
      have c3 : j + 1 ≤ a := by omega
      simp [c1, c2, c3]
      omega
    · have c1 : a - j = 0 := by omega
      have c3 : ¬ j + 1 ≤ a := by omega
      by_cases c4 : j = a
      · subst c4
        simp
      · have c2 : ¬ j ≤ a := by omega
        simp [c1, c2, c3]
        omega
theorem ans_once (a j : Nat) : (tn ⟨a, 1, false, 0, false⟩ j).ans = if j = a then 6 else 0 := by
  rw [tn_once]
  unfold Tr.ans
  rw [if_neg (by simp)]
  by_cases c : j = a
  · subst c
    simp
  · by_cases c1 : j < a
    · have : 0 < a - j := by omega
      simp [c, this]
    · have c2 : a - j = 0 := by omega
      have c3 : ¬ j ≤ a := by omega
      simp [c, c2, c3]
/-- What the middle of SlotNone leaves. -/
def SNoneAt (w : World) (wx : World) : Prop := ∃ S L t, Dsk wx (w.heap.size + 2) w.heap.size (w.heap.size + 1) 192 S L t ∧ Below w.heap.size w wx

set_option maxRecDepth 20000 in
set_option maxHeartbeats 1600000 in
theorem slotNone_any (v0 : Value) (xs : List Nat) (p : Nat) (w : World) (h0 : Bts w w.heap.size v0 xs) (hl : xs.length ≤ 900) (hp : p < 256) :
    Calls Try.prog 5 #[v0, .int .u8 (p : Int)] w fun e w' => e = .returned (.bool true) ∧ Below w.heap.size w w' := by
  have H0 := Lib.hid h0
  obtain ⟨A, l, c, rfl, e0, -⟩ := h0
  have HL := Lib.hid hl
  have t1 : decide ((900 : Int) < (l : Int)) = false := decide_eq_false (by omega)
  obtain ⟨a, ha, ha2⟩ : ∃ a : Nat, (p : Int) % 3 = (a : Int) ∧ a < 3 := ⟨p % 3, by omega, by omega⟩
  have HA := Lib.hid ha2
  clear hl e0 hp ha2
  go_enter Try.func5, Try.ntmps5
  go_wp2_with fail
  refine (load_nil _).mono ?_
  rintro e w1 ⟨rfl, rfl⟩
  go_wp2_with fail
  refine (dnew_any 192 192 w (by unfold NearD; omega)).mono ?_
  rintro e w1 ⟨rfl, hd1, hb1, hz1⟩
  have HD1 := Lib.hid hd1
  have HN1 := Lib.hid hb1
  clear hd1 hb1 hz1
  go_wp2_with fail
  refine (fail_any _ _ _ _ _ _ _ 0 1 _ HD1.out (by omega) (by omega)).mono ?_
  rintro e w2 ⟨rfl, hd2, ho2⟩
  have HD2 := Lib.hid (show Dsk w2 (w.heap.size + 2) w.heap.size (w.heap.size + 1) 192 (fun _ => zer) (fun _ => none) ⟨0, 1, false, 0, false⟩ from hd2)
  have HN2 := Lib.hid ((show Turns (dk (w.heap.size + 2) w.heap.size (w.heap.size + 1)) w1 w2 from Turns.of_only ho2 (.inl rfl)).fresh_ HN1.out (Nat.le_refl _) (by omega) (Nat.le_refl _) (by omega))
  clear hd2 ho2
  go_wp2_with fail
  refine (load_any _ _ _ _ _ _ _ w2 HD2.out (by omega)).mono ?_
  rintro e w3 hpost
  have hpost : e = .returned (.tuple #[.int .u32 0, .slice none 0 0, .int .i64 6]) ∧ Dsk w3 (w.heap.size + 2) w.heap.size (w.heap.size + 1) 192 (fun _ => zer) (fun _ => none) ⟨0, 0, false, 0, false⟩ ∧ Below w.heap.size w w3 := by
    obtain ⟨ht, k, _, hk, hh⟩ := hpost
    have hk0 : k = 0 := by
      rcases Nat.eq_zero_or_pos k with h | h
      · exact h
      · have := hk 0 h
        exact absurd this (by decide)
    subst hk0
    rcases hh with ⟨h1, _⟩ | ⟨_, h2, h3⟩
    · omega
    · exact ⟨h2, h3, ht.fresh_ HN2.out (Nat.le_refl _) (by omega) (Nat.le_refl _) (by omega)⟩
  obtain ⟨rfl, hd3, hn3⟩ := hpost
  have HD3 := Lib.hid hd3
  have HN3 := Lib.hid hn3
  clear hd3 hn3
  go_wp2_with fail
  refine (fail_any _ _ _ _ _ _ _ a 1 _ HD3.out (by have := HA.out; omega) (by omega)).mono ?_
  rintro e w4 ⟨rfl, hd4, ho4⟩
  have HD4 := Lib.hid (show Dsk w4 (w.heap.size + 2) w.heap.size (w.heap.size + 1) 192 (fun _ => zer) (fun _ => none) ⟨a, 1, false, 0, false⟩ from hd4)
  have HN4 := Lib.hid ((show Turns (dk (w.heap.size + 2) w.heap.size (w.heap.size + 1)) w3 w4 from Turns.of_only ho4 (.inl rfl)).fresh_ HN3.out (Nat.le_refl _) (by omega) (Nat.le_refl _) (by omega))
  clear hd4 ho4
  have HX4 := Lib.hid (show Stay (w.heap.size + 2) w.heap.size (w.heap.size + 1) w4 (.slice A l c) xs from Stay.below (H0.out.below HN4.out) HN4.out.size (dk_lo w))
  go_wp2_with fail
  refine (save_any _ _ _ _ _ _ _ 1 _ xs w4 HD4.out (by omega) HX4.out (by have := HL.out; omega) (by omega)).mono ?_
  rintro e w5 hpost
  have hpost : e = .returned (.int .i64 6) ∧ Below w.heap.size w w5 := by
    obtain ⟨ht, hh⟩ := hpost
    refine ⟨?_, ht.fresh_ HN4.out (Nat.le_refl _) (by omega) (Nat.le_refl _) (by omega)⟩
    have one : ∀ j, (tn ⟨a, 1, false, 0, false⟩ j).ans ≠ 0 → (tn ⟨a, 1, false, 0, false⟩ j).ans = 6 := by
      intro j hj
      rw [ans_once] at hj ⊢
      split at hj
      · rw [if_pos (by assumption)]
      · exact absurd rfl hj
    rcases hh with ⟨k, _, _, h1, h2, _⟩ | ⟨h0, ⟨h1, h2, _⟩ | ⟨_, h1, h2, _⟩ | ⟨h1, h2, _⟩⟩
    · rw [h2, one _ h1]; rfl
    · rw [h2, one _ h1]; rfl
    · rw [h2, one _ h1]; rfl
    · exfalso
      have h3 : (tn ⟨a, 1, false, 0, false⟩ a).ans = 6 := by rw [ans_once, if_pos rfl]
      have h4 : (tn ⟨a, 1, false, 0, false⟩ a).ans = 0 := by
        by_cases c1 : a < nsec xs + 1
        · exact h0 a c1
        · by_cases c2 : a = nsec xs + 1
          · rw [← c2] at h1; exact h1
          · have c3 : a = nsec xs + 2 := by have := HA.out; omega
            rw [← c3] at h2; exact h2
      omega
  obtain ⟨rfl, hn5⟩ := hpost
  have HN5 := Lib.hid hn5
  clear hn5
  go_wp2_with fail
  refine (slotAnswers_any _).mono ?_
  rintro e w6 ⟨rfl, hb6⟩
  have HN6 := Lib.hid (HN5.out.trans (hb6.mono HN5.out.size))
  clear hb6
  go_wp2_with fail
  refine (save_nil _ _ _ _ _).mono ?_
  rintro e w7 ⟨rfl, rfl⟩
  go_wp2
  go_ret
  exact ⟨by simp, HN6.out⟩
end Go.Proofs.Ytgjedofljojioaa
