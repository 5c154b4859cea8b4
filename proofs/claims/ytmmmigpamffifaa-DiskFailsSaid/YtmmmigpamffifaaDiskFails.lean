/-
  DiskFails answers true for any two counts, and writes nothing that was there.
  Conditions: none beside the kinds' own ranges.
-/
import Derived.Test.YtmmmigpamffifaaDiskAns
namespace Go.Proofs.Ytmmmigpamffifaa
open Go.RowKit
set_option linter.unusedVariables false

/-- What is still to come of Fail behind i works. -/
def failT (a b i : Nat) : Tr := ⟨a - i, b - (i - a), false, 0, false⟩
theorem failT_ok (a b i : Nat) (ha : a < 20) (hb : b < 20) : (failT a b i).ok := ⟨by simp [failT]; omega, by simp [failT]; omega, by simp [failT]⟩
theorem failT_next (a b i : Nat) : (failT a b i).next = failT a b (i + 1) := by
  unfold Tr.next failT
  rw [if_neg (by simp)]
  by_cases h : i < a
  · simp [show 0 < a - i by omega, show i - a = 0 by omega, show i + 1 - a = 0 by omega, show a - i - 1 = a - (i + 1) by omega]
  · simp [show ¬ 0 < a - i by omega, show a - i - 1 = a - (i + 1) by omega, show b - (i - a) - 1 = b - (i + 1 - a) by omega]
theorem failT_ans (a b i : Nat) : (failT a b i).ans = if a ≤ i ∧ i < a + b then 6 else 0 := by
  unfold Tr.ans failT
  rw [if_neg (by simp)]
  by_cases h : i < a
  · rw [if_pos (by simp only; omega), if_neg (by omega)]
  · rw [if_neg (by simp only; omega)]
    by_cases h2 : i < a + b
    · rw [if_pos (by simp only; omega), if_pos (by omega)]
    · rw [if_neg (by simp only; omega), if_neg (by omega)]

/-- What holds ahead of each work. -/
def FailsAt (w : World) (gD gS gM a b i : Nat) (wr : World) : Prop := Dsk wr gD gS gM 1 (fun _ => zer) (fun _ => none) (failT a b i) ∧ Below w.heap.size w wr

set_option maxHeartbeats 1000000 in
theorem diskFails_any (p q : Nat) (w : World) (hp : p < 256) (hq : q < 256) :
    Calls Try.prog 4 #[.int .u8 p, .int .u8 q] w fun e w' => e = .returned (.bool true) ∧ Below w.heap.size w w' := by
  obtain ⟨a, hpa, ha⟩ : ∃ a : Nat, (p : Int) % 20 = (a : Int) ∧ a < 20 := ⟨p % 20, by omega, by omega⟩
  obtain ⟨b, hqb, hb⟩ : ∃ b : Nat, (q : Int) % 20 = (b : Int) ∧ b < 20 := ⟨q % 20, by omega, by omega⟩
  go_enter Try.func4, Try.ntmps4
  go_wp2_with fail
  refine (dnew_any 1 1 w (by unfold NearD; omega)).mono ?_
  rintro e w1 ⟨rfl, hd1, hb1, hz1⟩
  have HD1 := Lib.hid hd1
  have HB1 := Lib.hid hb1
  clear hd1 hb1 hz1
  go_wp2_with fail
  refine (fail_any _ _ _ _ _ _ _ a b _ HD1.out (by omega) (by omega)).mono ?_
  rintro e w2 ⟨rfl, hd2, ho2⟩
  have HST := Lib.hid (show FailsAt w (w.heap.size + 2) w.heap.size (w.heap.size + 1) a b 0 w2 from ⟨by
    have e : failT a b 0 = ⟨a, b, Tr.none_.fused, Tr.none_.left, Tr.none_.down⟩ := by simp [failT, Tr.none_]
    rw [e]
    exact hd2, (show Turns (dk (w.heap.size + 2) w.heap.size (w.heap.size + 1)) w1 w2 from Turns.of_only ho2 (.inl rfl)).fresh HB1.out (Nat.le_refl _) (by omega) (Nat.le_refl _) (by omega)⟩)
  clear hd2 ho2
  have HA := Lib.hid ha
  have HBB := Lib.hid hb
  clear ha hb hp hq
  go_wp2_with fail
  clear hpa hqb
  go_loopw [8] (fun v wr => ∃ i : Nat, i ≤ 45 ∧ v = .int .i64 i ∧ FailsAt w (w.heap.size + 2) w.heap.size (w.heap.size + 1) a b i wr) (fun v _ => 45 - (intOf v).toNat)
  case atStart => exact ⟨0, by omega, rfl, HST.out⟩
  case round =>
    obtain ⟨i, hi, rfl, hd, hn⟩ := hrel
    have HDR := Lib.hid hd
    have HNR := Lib.hid hn
    have ha := HA.out
    have hb := HBB.out
    clear hd hn
    by_cases hlt : i < 45
    · have t1 : decide ((i : Int) < 45) = true := decide_eq_true (by omega)
      have w1' : IntKind.i64.wrap ((a : Int) + (b : Int)) = ((a : Int) + (b : Int)) := by rw [IntKind.wrap_i64]; omega
      have w2' : IntKind.i64.wrap ((i : Int) + 1) = ((i : Int) + 1) := by rw [IntKind.wrap_i64]; omega
      by_cases h1 : a ≤ i
      · have t2 : decide ((a : Int) ≤ (i : Int)) = true := decide_eq_true (by omega)
        by_cases h2 : i < a + b
        · have t3 : decide ((i : Int) < (a : Int) + (b : Int)) = true := decide_eq_true (by omega)
          have hans : (failT a b i).ans = 6 := by rw [failT_ans, if_pos (by omega)]
          go_wp2_with fail
          refine (dread_bad _ _ _ _ _ _ _ 0 _ HDR.out (by omega) (by rw [hans]; decide)).mono ?_
          rintro e w2 ⟨rfl, hd2, ht2, hs2⟩
          rw [hans]
          rw [failT_next] at hd2
          have HD2 := Lib.hid hd2
          have HN2 := Lib.hid (ht2.fresh HNR.out (Nat.le_refl _) (by omega) (Nat.le_refl _) (by omega))
          clear hd2 ht2 hs2
          go_wp2_with fail
          go_roundw
          case rel => exact ⟨i + 1, by omega, by rw [Int.natCast_add]; rfl, HD2.out, HN2.out⟩
          case measure => simp [intOf]; omega
        · have t3 : decide ((i : Int) < (a : Int) + (b : Int)) = false := decide_eq_false (by omega)
          have hans : (failT a b i).ans = 0 := by rw [failT_ans, if_neg (by omega)]
          go_wp2_with fail
          refine (dread_yes _ _ _ _ _ _ _ 0 _ HDR.out (by omega) hans).mono ?_
          rintro e w2 ⟨rfl, hk2, hd2, ht2, hs2⟩
          rw [failT_next] at hd2
          clear hk2
          have HD2 := Lib.hid hd2
          have HN2 := Lib.hid (ht2.fresh HNR.out (Nat.le_refl _) (by omega) (Nat.le_refl _) (by omega))
          clear hd2 ht2 hs2
          go_wp2_with fail
          go_roundw
          case rel => exact ⟨i + 1, by omega, by rw [Int.natCast_add]; rfl, HD2.out, HN2.out⟩
          case measure => simp [intOf]; omega
      · have t2 : decide ((a : Int) ≤ (i : Int)) = false := decide_eq_false (by omega)
        have hans : (failT a b i).ans = 0 := by rw [failT_ans, if_neg (by omega)]
        go_wp2_with fail
        refine (dread_yes _ _ _ _ _ _ _ 0 _ HDR.out (by omega) hans).mono ?_
        rintro e w2 ⟨rfl, hk2, hd2, ht2, hs2⟩
        rw [failT_next] at hd2
        clear hk2
        have HD2 := Lib.hid hd2
        have HN2 := Lib.hid (ht2.fresh HNR.out (Nat.le_refl _) (by omega) (Nat.le_refl _) (by omega))
        clear hd2 ht2 hs2
        go_wp2_with fail
        go_roundw
        case rel => exact ⟨i + 1, by omega, by rw [Int.natCast_add]; rfl, HD2.out, HN2.out⟩
        case measure => simp [intOf]; omega
    · obtain rfl : i = 45 := by omega
      go_wp2_with fail
      refine (diskAnswers_any _).mono ?_
      rintro e w2 ⟨rfl, hb2⟩
      have HB2 := Lib.hid hb2
      clear hb2
      go_wp2
      go_ret
      exact ⟨rfl, HNR.out.trans (HB2.out.mono HNR.out.size)⟩
end Go.Proofs.Ytmmmigpamffifaa
