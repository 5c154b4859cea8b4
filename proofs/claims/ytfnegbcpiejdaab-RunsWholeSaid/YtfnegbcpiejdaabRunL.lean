/-
  The contracts of the document's own Cut and Run, and of the statements' own 'answers'; RunsNone and RunsHalves answer true.
  Conditions: the lists are read in memory.
-/
import Derived.Test.YtfnegbcpiejdaabRunI
import Derived.Test.YtfnegbcpiejdaabInts
import Derived.Deep.LoopGhost
namespace Go.Proofs.Ytfnegbcpiejdaab
open Go.RowKit
/-! ### answers -/
def L9 : List Bool := [false, true, true, true, true, true, false, false, false]
theorem l9_put : putB (List.replicate (cutN 9) false) true [1, 2, 3, 4, 5] = L9 := by decide
theorem l9_run : RunIs L9 1 0 9 (some 2) := by
  refine ⟨by omega, by omega, ⟨rfl, by decide, by decide, by decide, fun k h1 h2 => ?_⟩, fun g hg h => ?_⟩
  · have h2' : k < 4 := h2
    have : k = 2 ∨ k = 3 := by omega
    rcases this with rfl | rfl <;> rfl
  · obtain ⟨h1, _, _, _, h5⟩ := h
    have : g = 0 ∨ g = 1 := by omega
    rcases this with rfl | rfl
    · have := h5 0 (Nat.le_refl _) (by decide)
      cases this
    · cases h1
theorem l9_count : (bads L9 L9.length).length = 5 := by decide
set_option maxRecDepth 20000 in
set_option maxHeartbeats 800000 in
theorem runAnswers_any (w : World) :
    Calls Try.prog 12 #[] w fun e w' => e = .returned (.bool true) ∧ Below w.heap.size w w' := by
  go_enter Try.func12, Try.ntmps12
  go_wp2_with fail
  refine (runs_new 9 w).mono ?_
  rintro e w1 ⟨gS, K, rfl, hm1, hk1, hb1⟩
  have HM1 := Lib.hid hm1
  have HK1 := Lib.hid hk1
  have HB1 := Lib.hid hb1
  clear hm1 hk1 hb1
  have A2 := Lib.hid (show Below w1.heap.size w1 (w1.alloc (.cells #[.int .i64 1, .int .i64 2, .int .i64 3, .int .i64 4, .int .i64 5] 3)) from (Below.refl _ _).alloc (Nat.le_refl _) _)
  have HI2 := Lib.hid (show Its (w1.alloc (.cells #[.int .i64 1, .int .i64 2, .int .i64 3, .int .i64 4, .int .i64 5] 3)) (w1.alloc (.cells #[.int .i64 1, .int .i64 2, .int .i64 3, .int .i64 4, .int .i64 5] 3)).heap.size (.slice (some ⟨w1.heap.size, 0, none⟩) 5 5) [1, 2, 3, 4, 5] from Its.of_lit (xs := [1, 2, 3, 4, 5]) (Blk.new w1 _ _) (by simp [maxLen]))
  have HO2 := Lib.hid (show Off K (.slice (some ⟨w1.heap.size, 0, none⟩) 5 5) from fun b o s n c e _ hk => by
    injection e with e
    injection e with e
    injection e with e
    have := HM1.out.lt b hk
    omega)
  have HM2 := Lib.hid (HM1.out.fresh A2.out)
  go_wp2_with fail
  refine (runs_add gS K _ _ [1, 2, 3, 4, 5] _ HM2.out HI2.out HO2.out).mono ?_
  rintro e w3 ⟨K3, rfl, hm3, hk3, ht3⟩
  rw [l9_put] at hm3
  have HM3 := Lib.hid hm3
  have HB2 := Lib.hid (HB1.out.trans (A2.out.mono HB1.out.size))
  have HB3 := Lib.hid (HB2.out.trans (ht3.below HK1.out HB2.out.size))
  clear hm3 hk3 ht3
  go_wp2_with fail
  refine (runs_run gS K3 L9 1 0 9 w3 HM3.out).mono ?_
  rintro e w4 ⟨r, rfl, hr, hb4⟩
  obtain rfl : r = some 2 := hr.uniq l9_run
  have HM4 := Lib.hid (HM3.out.fresh hb4)
  have HB4 := Lib.hid (HB3.out.trans (hb4.mono HB3.out.size))
  clear hr hb4
  unfold runV
  go_wp2_with fail
  refine (runs_count gS K3 L9 w4 HM4.out).mono ?_
  rintro e w5 ⟨rfl, hb5⟩
  rw [l9_count]
  have HM5 := Lib.hid (HM4.out.fresh hb5)
  have HB5 := Lib.hid (HB4.out.trans (hb5.mono HB4.out.size))
  clear hb5
  go_wp2_with fail
  refine (runs_has gS K3 L9 1 w5 HM5.out).mono ?_
  rintro e w6 ⟨rfl, hb6⟩
  rw [show (decide ((0 : Int) ≤ 1 ∧ (1 : Int) < (L9.length : Int)) && L9.getD (1 : Int).toNat false) = true from by decide]
  have HB6 := Lib.hid (HB5.out.trans (hb6.mono HB5.out.size))
  clear hb6
  go_wp2
  go_ret
  exact ⟨by simp, HB6.out⟩

/-! ### RunsNone -/
set_option maxRecDepth 20000 in
set_option maxHeartbeats 800000 in
theorem runsNone_any (n : Int) (w : World) :
    Calls Try.prog 3 #[.int .i64 n] w fun e w' => e = .returned (.bool true) ∧ Below w.heap.size w w' := by
  have A1 := Lib.hid (fun (W : World) => (show Below W.heap.size W (W.alloc (.cells #[.int .i64 n] 3)) from (Below.refl _ _).alloc (Nat.le_refl _) _))
  have I1 := Lib.hid (fun (W : World) => (show Its (W.alloc (.cells #[.int .i64 n] 3)) (W.alloc (.cells #[.int .i64 n] 3)).heap.size (.slice (some ⟨W.heap.size, 0, none⟩) 1 1) [n] from Its.of_lit (xs := [n]) (Blk.new W _ _) (by simp [maxLen])))
  go_enter Try.func3, Try.ntmps3
  go_wp2_with fail
  refine (runs_add_nil _ [n] _ (I1.out w)).mono ?_
  rintro e w1 ⟨rfl, hb1⟩
  have HB1 := Lib.hid ((A1.out w).trans (hb1.mono (A1.out w).size))
  clear hb1
  go_wp2_with fail
  refine (runs_drop_nil _ [n] _ (I1.out w1)).mono ?_
  rintro e w2 ⟨rfl, hb2⟩
  have HB2 := Lib.hid ((HB1.out.trans ((A1.out w1).mono HB1.out.size)).trans (hb2.mono (Nat.le_trans HB1.out.size (A1.out w1).size)))
  clear hb2
  go_wp2_with fail
  refine (runs_run_nil 0 0 9 w2).mono ?_
  rintro e w3 ⟨rfl, hb3⟩
  have HB3 := Lib.hid (HB2.out.trans (hb3.mono HB2.out.size))
  clear hb3
  go_wp2_with fail
  refine (runAnswers_any w3).mono ?_
  rintro e w4 ⟨rfl, hb4⟩
  have HB4 := Lib.hid (HB3.out.trans (hb4.mono HB3.out.size))
  clear hb4
  go_wp2_with fail
  refine (runs_has_nil n w4).mono ?_
  rintro e w5 ⟨rfl, rfl⟩
  go_wp2_with fail
  refine (runs_count_nil w4).mono ?_
  rintro e w5 ⟨rfl, rfl⟩
  go_wp2_with fail
  refine (runs_all_nil w4).mono ?_
  rintro e w5 ⟨rfl, rfl⟩
  go_wp2
  go_ret
  exact ⟨rfl, HB4.out⟩

theorem halves_facts {l : List Bool} {k : Nat} {a b : Int} {r r' : Option Nat} (hk : k ≤ 4) (h : RunIs l ((k : Int) + 1) a b r) (h' : RunIs l (k : Int) a b r') : r = none ∨ ∃ f g, r = some f ∧ r' = some g ∧ g ≤ f := by
  cases r with
  | none => exact .inl rfl
  | some f =>
    obtain ⟨_, _, h3, _⟩ := h
    rw [show ((k : Int) + 1).toNat = k + 1 by omega] at h3
    have h4 := h3.half
    cases r' with
    | none =>
      rcases h' with h | h | h
      · omega
      · omega
      · exact absurd h4 (by simpa using h f)
    | some g =>
      obtain ⟨_, _, _, k4⟩ := h'
      refine .inr ⟨f, g, rfl, rfl, Nat.le_of_not_lt fun hlt => k4 f hlt (by simpa using h4)⟩
end Go.Proofs.Ytfnegbcpiejdaab
