/-
  RamPoison answers true for any two frames' numbers and any bytes, and writes nothing that was there.
  Conditions: the bytes are read in memory.
-/
import Derived.Test.YtlodeejeeldplaaRamAns
namespace Go.Proofs.Ytlodeejeeldplaa
open Go.RowKit
set_option linter.unusedVariables false

set_option maxHeartbeats 400000 in
theorem ramPoison_edge (f g : Nat) (A : Option Addr) (l c : Nat) (w : World) (hl : l ≤ maxLen) (hf : f < 256) (hg : g < 256) (h : 64 < l ∨ f % 8 = g % 8) :
    Calls Try.prog 6 #[.int .u8 (f : Int), .int .u8 (g : Int), .slice A l c] w fun e w' => e = .returned (.bool true) ∧ Below w.heap.size w w' := by
  unfold maxLen at hl
  by_cases h1 : 64 < l
  · have t1 : decide ((64 : Int) < (l : Int)) = true := by simp; omega
    clear h
    go_enter Try.func6, Try.ntmps6
    go_wp2_with fail
    refine (ramAnswers_any _).mono ?_
    rintro e w1 ⟨rfl, hb1⟩
    go_wp2
    go_ret
    exact ⟨rfl, hb1⟩
  · have t1 : decide ((64 : Int) < (l : Int)) = false := by simp; omega
    have t2 : ((f : Int) % 8 == (g : Int) % 8) = true := by rw [beq_iff_eq]; omega
    clear h
    go_enter Try.func6, Try.ntmps6
    go_wp2_with fail
    refine (ramAnswers_any _).mono ?_
    rintro e w1 ⟨rfl, hb1⟩
    go_wp2
    go_ret
    exact ⟨rfl, hb1⟩

theorem win_over0 (F xs : List Nat) (h : xs.length ≤ F.length) : win (over F 0 xs) 0 xs.length = xs := by
  simp [win, over]

set_option maxHeartbeats 800000 in
theorem ramPoison_any (f g x y : Nat) (v0 : Value) (xs : List Nat) (w : World) (hv : Bts w w.heap.size v0 xs) (hl : xs.length ≤ 64) (hf : f < 256) (hg : g < 256) (hx : f % 8 = x) (hy : g % 8 = y) (hne : x ≠ y) :
    Calls Try.prog 6 #[.int .u8 (f : Int), .int .u8 (g : Int), v0] w fun e w' => e = .returned (.bool true) ∧ Below w.heap.size w w' := by
  have HV := Lib.hid hv
  obtain ⟨A0, l0, c0, rfl, e0, -⟩ := hv
  have E0 := Lib.hid e0
  rw [e0] at hl
  clear e0
  have hx8 : x < 8 := by omega
  have hy8 : y < 8 := by omega
  have HX : Hid ((f : Int) % 8 = (x : Int)) := show _ = _ by omega
  have HY : Hid ((g : Int) % 8 = (y : Int)) := show _ = _ by omega
  have t1 : decide ((64 : Int) < (l0 : Int)) = false := by simp; omega
  have t2 : ((f : Int) % 8 == (g : Int) % 8) = false := by rw [beq_eq_false_iff_ne]; omega
  have t3 : (0 : Int) ≤ (f : Int) % 8 := by omega
  have t4 : (0 : Int) ≤ (g : Int) % 8 := by omega
  have t5 : (f : Int) % 8 < 8 := by omega
  have t6 : (g : Int) % 8 < 8 := by omega
  have HNE := Lib.hid hne
  clear hx hy hne
  go_enter Try.func6, Try.ntmps6
  go_wp2_with fail
  refine (new_any 8 8 w (by unfold Near; omega)).mono ?_
  rintro e w1 ⟨rfl, hm1, hb1, hz1⟩
  have HM1 := Lib.hid hm1
  have HB1 := Lib.hid hb1
  clear hm1 hb1 hz1
  go_wp2_with fail
  rw [HX.out]
  refine (write_yes _ _ _ _ _ x 0 _ _ xs _ HM1.out (by omega) (by rw [E0.out]; omega) rfl (HV.out.below HB1.out)).mono ?_
  rintro e w2 ⟨rfl, hm2, ho2⟩
  have HM2 := Lib.hid hm2
  have HB2 := Lib.hid (HB1.out.trans (ho2.below (Nat.le_refl _) HB1.out.size))
  clear hm2 ho2
  go_wp2_with fail
  rw [HY.out]
  refine (write_yes _ _ _ _ _ y 0 _ _ xs _ HM2.out (by omega) (by rw [E0.out]; omega) rfl (HV.out.below HB2.out)).mono ?_
  rintro e w3 ⟨rfl, hm3, ho3⟩
  have HM3 := Lib.hid hm3
  have HB3 := Lib.hid (HB2.out.trans (ho3.below (Nat.le_refl _) HB2.out.size))
  clear hm3 ho3
  go_wp2_with fail
  refine (poison_yes _ _ _ _ _ x _ HM3.out (by omega) rfl).mono ?_
  rintro e w4 ⟨rfl, hm4, ho4⟩
  have HM4 := Lib.hid hm4
  have HB4 := Lib.hid (HB3.out.trans (ho4.below (Nat.le_refl _) HB3.out.size))
  clear hm4 ho4
  go_wp2_with fail
  refine (poison_bad _ _ _ _ _ x _ HM4.out (by omega) (upd_same _ _ _)).mono ?_
  rintro e w5 ⟨rfl, rfl⟩
  go_wp2_with fail
  refine (read_err _ _ _ _ 7 _ (by omega) (piece_bad _ _ _ _ _ x 0 1 _ HM4.out (by omega) (by omega) (upd_same _ _ _))).mono ?_
  rintro e w5 ⟨rfl, rfl⟩
  go_wp2_with fail
  refine (read_yes _ _ _ _ _ y 0 l0 _ HM4.out (by omega) (by omega) (upd_other _ _ _ (Ne.symm HNE.out))).mono ?_
  rintro e w5 ⟨rfl, hk5, hb5, hz5⟩
  have HM5 := Lib.hid (HM4.out.below hb5 HM4.out.lt.1 HM4.out.lt.2)
  have HB5 := Lib.hid (HB4.out.trans (hb5.mono HB4.out.size))
  have HK5 := Lib.hid (show Blk w5 w4.heap.size 5 (xs.map bv).toArray from by
    have e : win (upd (upd (fun _ => zer) x (over zer 0 xs)) y (over (upd (fun _ => zer) x (over zer 0 xs) y) 0 xs) y) 0 l0 = xs := by
      rw [upd_same, upd_other _ _ _ (Ne.symm HNE.out), ← E0.out, win_over0 _ _ (by rw [zer_length, E0.out]; exact hl)]
    rw [e] at hk5
    exact hk5)
  clear hk5 hb5 hz5
  go_wp2_with fail
  refine (ramAnswers_any _).mono ?_
  rintro e w6 ⟨rfl, hb6⟩
  have HM6 := Lib.hid (HM5.out.below hb6 HM5.out.lt.1 HM5.out.lt.2)
  have HB6 := Lib.hid (HB5.out.trans (hb6.mono HB5.out.size))
  have HK6 := Lib.hid (HK5.out.below hb6 HK5.out.lt)
  clear hb6
  go_wp2_with fail
  refine (same_yes _ _ xs _ _ _ (Bts.of_whole HK6.out E0.out (by unfold maxLen; omega) HV.out.byte) (HV.out.below HB6.out)).mono ?_
  rintro e w7 ⟨rfl, m, rfl⟩
  have HM7 := Lib.hid (show Mem (w6.drewN m) _ _ _ _ _ from HM6.out)
  go_wp2_with fail
  refine (write_err _ _ _ _ _ _ 7 _ (by omega) (piece_bad _ _ _ _ _ x 0 l0 _ HM7.out (by omega) (by omega) (upd_same _ _ _))).mono ?_
  rintro e w8 ⟨rfl, rfl⟩
  go_wp2_with fail
  refine (zero_err _ _ 7 _ (by omega) (piece_bad _ _ _ _ _ x 0 64 _ HM7.out (by omega) (by omega) (upd_same _ _ _))).mono ?_
  rintro e w8 ⟨rfl, rfl⟩
  go_wp2_with fail
  refine (copy_bad _ _ _ _ _ x y _ HM7.out (by omega) (by omega) (.inl (upd_same _ _ _))).mono ?_
  rintro e w8 ⟨rfl, rfl⟩
  go_wp2_with fail
  refine (copy_bad _ _ _ _ _ y x _ HM7.out (by omega) (by omega) (.inr (upd_same _ _ _))).mono ?_
  rintro e w8 ⟨rfl, rfl⟩
  go_wp2_with fail
  refine (bad_yes _ _ _ _ _ x _ HM7.out (by omega)).mono ?_
  rintro e w8 ⟨rfl, rfl⟩
  rw [upd_same]
  go_wp2_with fail
  refine (bad_yes _ _ _ _ _ y _ HM7.out (by omega)).mono ?_
  rintro e w8 ⟨rfl, rfl⟩
  rw [upd_other _ _ _ (Ne.symm HNE.out)]
  go_wp2
  go_ret
  exact ⟨rfl, below_drewN HB6.out m⟩
end Go.Proofs.Ytlodeejeeldplaa
