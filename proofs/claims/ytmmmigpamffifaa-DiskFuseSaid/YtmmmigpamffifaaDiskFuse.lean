/-
  DiskFuse answers true for any count, and writes nothing that was there.
  Conditions: none beside the kind's own range.
-/
import Derived.Test.YtmmmigpamffifaaDiskAns
namespace Go.Proofs.Ytmmmigpamffifaa
open Go.RowKit
set_option linter.unusedVariables false

/-- What is still to come of Fuse behind i works. -/
def fuseT (a i : Nat) : Tr := ⟨0, 0, true, a - i, decide (a < i)⟩
theorem fuseT_next (a i : Nat) : (fuseT a i).next = fuseT a (i + 1) := by
  unfold Tr.next fuseT
  by_cases h : i < a
  · rw [if_neg (by simp; omega)]
    simp [show ¬ a < i by omega, show ¬ a < i + 1 by omega, show a - i - 1 = a - (i + 1) by omega]
  · rw [if_pos (by simp; omega)]
    simp [show a < i + 1 by omega, show a - i = 0 by omega, show a - (i + 1) = 0 by omega]
theorem fuseT_ans (a i : Nat) : (fuseT a i).ans = if i < a then 0 else 9 := by
  unfold Tr.ans fuseT
  by_cases h : i < a
  · rw [if_neg (by simp; omega), if_pos h]
    simp
  · rw [if_pos (by simp; omega), if_neg h]
theorem last_zer : last (fun _ => zer) (fun _ => none) = fun _ => zer := rfl

/-- What holds ahead of each work. -/
def FuseAt (w : World) (gD gS gM a i : Nat) (wr : World) : Prop := Dsk wr gD gS gM 1 (fun _ => zer) (fun _ => none) (fuseT a i) ∧ Below w.heap.size w wr

set_option maxHeartbeats 1000000 in
theorem diskFuse_any (p : Nat) (w : World) (hp : p < 256) :
    Calls Try.prog 5 #[.int .u8 p] w fun e w' => e = .returned (.bool true) ∧ Below w.heap.size w w' := by
  obtain ⟨a, hpa, ha⟩ : ∃ a : Nat, (p : Int) % 20 = (a : Int) ∧ a < 20 := ⟨p % 20, by omega, by omega⟩
  go_enter Try.func5, Try.ntmps5
  go_wp2_with fail
  refine (dnew_any 1 1 w (by unfold NearD; omega)).mono ?_
  rintro e w1 ⟨rfl, hd1, hb1, hz1⟩
  have HD1 := Lib.hid hd1
  have HB1 := Lib.hid hb1
  clear hd1 hb1 hz1
  go_wp2_with fail
  refine (fuse_any _ _ _ _ _ _ _ a _ HD1.out (by omega)).mono ?_
  rintro e w2 ⟨rfl, hd2, ho2⟩
  have HST := Lib.hid (show FuseAt w (w.heap.size + 2) w.heap.size (w.heap.size + 1) a 0 w2 from ⟨by
    have e : fuseT a 0 = ⟨Tr.none_.good, Tr.none_.failed, true, a, Tr.none_.down⟩ := by simp [fuseT, Tr.none_]
    rw [e]
    exact hd2, (show Turns (dk (w.heap.size + 2) w.heap.size (w.heap.size + 1)) w1 w2 from Turns.of_only ho2 (.inl rfl)).fresh HB1.out (Nat.le_refl _) (by omega) (Nat.le_refl _) (by omega)⟩)
  clear hd2 ho2
  have HA := Lib.hid ha
  clear ha hp
  go_wp2_with fail
  clear hpa
  go_loopw [5] (fun v wr => ∃ i : Nat, i ≤ 25 ∧ v = .int .i64 i ∧ FuseAt w (w.heap.size + 2) w.heap.size (w.heap.size + 1) a i wr) (fun v _ => 25 - (intOf v).toNat)
  case atStart => exact ⟨0, by omega, rfl, HST.out⟩
  case round =>
    obtain ⟨i, hi, rfl, hd, hn⟩ := hrel
    have HDR := Lib.hid hd
    have HNR := Lib.hid hn
    have ha := HA.out
    clear hd hn
    by_cases hlt : i < 25
    · have t1 : decide ((i : Int) < 25) = true := decide_eq_true (by omega)
      have w2' : IntKind.i64.wrap ((i : Int) + 1) = ((i : Int) + 1) := by rw [IntKind.wrap_i64]; omega
      by_cases h1 : i < a
      · have t2 : decide ((i : Int) < (a : Int)) = true := decide_eq_true (by omega)
        have hans : (fuseT a i).ans = 0 := by rw [fuseT_ans, if_pos h1]
        go_wp2_with fail
        refine (dflush_yes _ _ _ _ _ _ _ _ HDR.out hans).mono ?_
        rintro e w2 ⟨rfl, hd2, ht2⟩
        rw [fuseT_next, last_zer] at hd2
        have HD2 := Lib.hid hd2
        have HN2 := Lib.hid (ht2.fresh HNR.out (Nat.le_refl _) (by omega) (Nat.le_refl _) (by omega))
        clear hd2 ht2
        go_wp2_with fail
        go_roundw
        case rel => exact ⟨i + 1, by omega, by rw [Int.natCast_add]; rfl, HD2.out, HN2.out⟩
        case measure => simp [intOf]; omega
      · have t2 : decide ((i : Int) < (a : Int)) = false := decide_eq_false (by omega)
        have hans : (fuseT a i).ans = 9 := by rw [fuseT_ans, if_neg h1]
        go_wp2_with fail
        refine (dflush_bad _ _ _ _ _ _ _ _ HDR.out (by rw [hans]; decide)).mono ?_
        rintro e w2 ⟨rfl, hd2, ht2, -⟩
        rw [hans]
        rw [fuseT_next] at hd2
        have HD2 := Lib.hid hd2
        have HN2 := Lib.hid (ht2.fresh HNR.out (Nat.le_refl _) (by omega) (Nat.le_refl _) (by omega))
        clear hd2 ht2
        go_wp2_with fail
        go_roundw
        case rel => exact ⟨i + 1, by omega, by rw [Int.natCast_add]; rfl, HD2.out, HN2.out⟩
        case measure => simp [intOf]; omega
    · obtain rfl : i = 25 := by omega
      go_wp2_with fail
      refine (dread_none _ _ _ (dhas_no _ _ _ _ _ _ _ 5 _ HDR.out (by omega))).mono ?_
      rintro e w2 ⟨rfl, rfl⟩
      go_wp2_with fail
      refine (dcrash_any _ _ _ _ _ _ _ 0 0 0 _ HDR.out (by omega) (by unfold Near64; omega)).mono ?_
      rintro e w3 ⟨rfl, hd3, ht3⟩
      have HD3 := Lib.hid hd3
      have HN3 := Lib.hid (ht3.fresh HNR.out (Nat.le_refl _) (by omega) (Nat.le_refl _) (by omega))
      clear hd3 ht3
      go_wp2_with fail
      refine (diskAnswers_any _).mono ?_
      rintro e w4 ⟨rfl, hb4⟩
      have HD4 := Lib.hid (HD3.out.fresh hb4)
      have HN4 := Lib.hid (HN3.out.trans (hb4.mono HN3.out.size))
      clear hb4
      go_wp2_with fail
      refine (dflush_yes _ _ _ _ _ _ _ _ HD4.out Tr.none_ans).mono ?_
      rintro e w5 ⟨rfl, hd5, ht5⟩
      have HN5 := Lib.hid (ht5.fresh HN4.out (Nat.le_refl _) (by omega) (Nat.le_refl _) (by omega))
      clear hd5 ht5
      go_wp2
      go_ret
      exact ⟨rfl, HN5.out⟩
end Go.Proofs.Ytmmmigpamffifaa
