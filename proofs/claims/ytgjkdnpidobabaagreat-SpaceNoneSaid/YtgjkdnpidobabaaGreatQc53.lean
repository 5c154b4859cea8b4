/-
  SpaceNone: processes, and spaces, that there are not.
  Conditions: those that each line bears.
-/
import Derived.Test.YtgjkdnpidobabaaGreatQc52
import Derived.Test.YtgjkdnpidobabaaGreatQc49
import Derived.Test.YtgjkdnpidobabaaGreatQc01
set_option linter.unusedSimpArgs false
set_option linter.unusedSectionVars false
set_option linter.unusedVariables false
namespace Go.Proofs.YtgjkdnpidobabaaGreat
open Go.RowKit
set_option linter.unusedVariables false

theorem noPr0 (fl : Nat → Nat → Nat) (k : Int) : NoPr (uw0 fl) k := .inr fun n _ => rfl
theorem procs0 (fl : Nat → Nat → Nat) : procsU (uw0 fl) = [] := rfl
set_option maxRecDepth 20000 in
set_option maxHeartbeats 4000000 in
theorem spaceNone_any (n x : Int) (w : World) (wn : (Lit.int .i64 n).wf = true) (wx : (Lit.int .i64 x).wf = true) :
    Calls Tryz.prog 7 #[.int .i64 n, .int .i64 x] w fun e w' => e = .returned (.bool true) ∧ Below w.heap.size w w' := by
  have WX := Lib.hid wx
  by_cases c : 0 ≤ n ∧ n < 8
  · have t1 : decide ((0 : Int) ≤ n) = true := decide_eq_true c.1
    have t2 : decide (n < 8) = true := decide_eq_true c.2
    have t1' : (0 : Int) ≤ n := c.1
    have t2' : n < 8 := c.2
    obtain ⟨k, hk⟩ : ∃ k, n + 8 = k := ⟨_, rfl⟩
    have WK := Lib.hid (show (Lit.int .i64 k).wf = true from wf64 (by omega) (by omega))
    have HK := Lib.hid (show k < 0 ∨ 8 ≤ k from by omega)
    clear wn wx c
    go_enter Tryz.func7, Tryz.ntmps7
    go_wp2_with fail
    refine (fresh_any 1 1 (by omega) (by omega) w).mono ?_
    intro e w1 hf
    obtain ⟨gS, gW, fl, rfl, ht1⟩ := SpT.begin hf
    have HT1 := Lib.hid ht1
    clear hf ht1
    have hN := noPr0 fl k
    have HN := Lib.hid hN
    clear hN
    obtain ⟨W0, hW0⟩ : ∃ W0, W0 = uw0 fl := ⟨_, rfl⟩
    have HP0 := Lib.hid (show procsU W0 = [] from by rw [hW0]; exact procs0 fl)
    rw [← hW0] at HT1 HN
    clear hW0
    go_wp2_with fail
    refine (t_of HT1.out fun K h => space_load_none gS K _ 32 32 0 w1 k WK.out HN.out h x 1 WX.out (by decide)).mono ?_
    rintro e w2 ⟨rfl, ht⟩
    have HT2 := Lib.hid ht
    clear ht
    go_wp2_with fail
    refine (t_of HT2.out fun K h => space_signal_no gS K _ 32 32 0 w2 k WK.out HN.out h).mono ?_
    rintro e w3 ⟨rfl, ht⟩
    have HT3 := Lib.hid ht
    clear ht
    have HT3' := Lib.hid (HT3.out.made 44 #[.int .i64 0, .int .i64 0])
    clear HT3
    go_wp2_with fail
    refine (t_of HT3'.out fun K h => space_tell_no gS K _ 32 32 0 _ k WK.out HN.out h x WX.out).mono ?_
    rintro e w4 ⟨rfl, ht⟩
    have HT4 := Lib.hid ht
    clear ht
    go_wp2_with fail
    refine (spaceAnswers_any w4).mono ?_
    rintro e w5 ⟨rfl, hb⟩
    have HT5 := Lib.hid (HT4.out.fresh hb)
    clear hb
    go_wp2_with fail
    refine (t_of HT5.out fun K h => space_spawn_arg gS K _ 32 32 0 w5 k WK.out h HK.out).mono ?_
    rintro e w6 ⟨rfl, ht⟩
    have HT6 := Lib.hid ht
    clear ht
    go_wp2_with fail
    refine (t_of HT6.out fun K h => space_exit_no gS K _ 32 32 0 w6 k WK.out HN.out h).mono ?_
    rintro e w7 ⟨rfl, ht⟩
    have HT7 := Lib.hid ht
    clear ht
    go_wp2_with fail
    refine (t_of HT7.out fun K h => space_fork_no gS K _ 32 32 0 w7 k WK.out HN.out h 0 (by decide)).mono ?_
    rintro e w8 ⟨rfl, ht⟩
    have HT8 := Lib.hid ht
    clear ht
    go_wp2_with fail
    rw [show (#[.int .i64 0, .int .i64 0, .bool false, .int .i64 0, .int .i64 0, .int .i64 0] : Array Value) = (arL ar0).toArray from rfl]
    refine (t_of HT8.out fun K h => space_map_no gS K _ 32 32 0 w8 k WK.out HN.out h ar0 (by decide)).mono ?_
    rintro e w9 ⟨rfl, ht⟩
    have HT9 := Lib.hid ht
    clear ht
    go_wp2_with fail
    refine (t_of HT9.out fun K h => space_unmap_no gS K _ 32 32 0 w9 k WK.out HN.out h 0 1 (by decide) (by decide)).mono ?_
    rintro e w10 ⟨rfl, ht⟩
    have HT10 := Lib.hid ht
    clear ht
    go_wp2_with fail
    refine (t_of HT10.out fun K h => space_protect_no gS K _ 32 32 0 w10 k WK.out HN.out h 0 1 true (by decide) (by decide)).mono ?_
    rintro e w11 ⟨rfl, ht⟩
    have HT11 := Lib.hid ht
    clear ht
    go_wp2_with fail
    refine (t_of HT11.out fun K h => space_store_none gS K _ 32 32 0 w11 k WK.out HN.out h x WX.out).mono ?_
    rintro e w12 ⟨rfl, ht⟩
    have HT12 := Lib.hid ht
    clear ht
    go_wp2_with fail
    refine (t_of HT12.out fun K h => space_tree_no gS K _ 32 32 0 w12 k WK.out HN.out h).mono ?_
    rintro e w13 ⟨rfl, ht⟩
    have HT13 := Lib.hid ht
    clear ht
    go_wp2_with fail
    obtain ⟨KX, hx1, hx2, hx3, hx4, hx5⟩ := HT13.out
    refine (space_areas_no gS KX _ 32 32 0 w13 k WK.out HN.out hx1).mono ?_
    rintro e w14 ⟨v14, hp, hg⟩
    obtain ⟨rfl, ht⟩ := SpT.of_post hx1 hx2 hx3 hx4 hx5 hp
    have HT14 := Lib.hid ht
    obtain ⟨A14, n14, c14, rfl, hn14, -⟩ := hg
    have hn14 : 0 = n14 := hn14
    subst hn14
    clear hx1 hx2 hx3 hx4 hx5 hp ht
    go_wp2_with fail
    obtain ⟨KX, hx1, hx2, hx3, hx4, hx5⟩ := HT14.out
    refine (space_procs gS KX _ 32 32 0 w14 hx1).mono ?_
    rintro e w15 ⟨v15, hp, hg⟩
    rw [HP0.out] at hg
    obtain ⟨rfl, ht⟩ := SpT.of_post hx1 hx2 hx3 hx4 hx5 hp
    have HT15 := Lib.hid ht
    obtain ⟨A15, n15, c15, rfl, hn15, -⟩ := hg
    have hn15 : 0 = n15 := hn15
    subst hn15
    clear hx1 hx2 hx3 hx4 hx5 hp ht
    go_wp2_with fail
    refine (t_of HT15.out fun K h => space_put_no gS K _ 32 32 0 w15 k WK.out HN.out h 0 0 0 false (by decide) (by decide) (by decide)).mono ?_
    rintro e w16 ⟨rfl, ht⟩
    have HB := Lib.hid ht.below
    clear ht
    go_wp2
    go_ret
    exact ⟨rfl, HB.out⟩
  · have WK := Lib.hid wn
    have HK := Lib.hid (show n < 0 ∨ 8 ≤ n from by omega)
    clear wn wx
    by_cases d : 0 ≤ n
    · have t1 : decide ((0 : Int) ≤ n) = true := decide_eq_true d
      have t2 : decide (n < 8) = false := decide_eq_false (by omega)
      have t2' : ¬ n < 8 := by omega
      clear c
      obtain ⟨k, rfl⟩ : ∃ k, k = n := ⟨_, rfl⟩
      go_enter Tryz.func7, Tryz.ntmps7
      go_wp2_with fail
      refine (fresh_any 1 1 (by omega) (by omega) w).mono ?_
      intro e w1 hf
      obtain ⟨gS, gW, fl, rfl, ht1⟩ := SpT.begin hf
      have HT1 := Lib.hid ht1
      clear hf ht1
      have hN := noPr0 fl k
      have HN := Lib.hid hN
      clear hN
      obtain ⟨W0, hW0⟩ : ∃ W0, W0 = uw0 fl := ⟨_, rfl⟩
      have HP0 := Lib.hid (show procsU W0 = [] from by rw [hW0]; exact procs0 fl)
      rw [← hW0] at HT1 HN
      clear hW0
      go_wp2_with fail
      refine (t_of HT1.out fun K h => space_load_none gS K _ 32 32 0 w1 k WK.out HN.out h x 1 WX.out (by decide)).mono ?_
      rintro e w2 ⟨rfl, ht⟩
      have HT2 := Lib.hid ht
      clear ht
      go_wp2_with fail
      refine (t_of HT2.out fun K h => space_signal_no gS K _ 32 32 0 w2 k WK.out HN.out h).mono ?_
      rintro e w3 ⟨rfl, ht⟩
      have HT3 := Lib.hid ht
      clear ht
      have HT3' := Lib.hid (HT3.out.made 44 #[.int .i64 0, .int .i64 0])
      clear HT3
      go_wp2_with fail
      refine (t_of HT3'.out fun K h => space_tell_no gS K _ 32 32 0 _ k WK.out HN.out h x WX.out).mono ?_
      rintro e w4 ⟨rfl, ht⟩
      have HT4 := Lib.hid ht
      clear ht
      go_wp2_with fail
      refine (spaceAnswers_any w4).mono ?_
      rintro e w5 ⟨rfl, hb⟩
      have HT5 := Lib.hid (HT4.out.fresh hb)
      clear hb
      go_wp2_with fail
      refine (t_of HT5.out fun K h => space_spawn_arg gS K _ 32 32 0 w5 k WK.out h HK.out).mono ?_
      rintro e w6 ⟨rfl, ht⟩
      have HT6 := Lib.hid ht
      clear ht
      go_wp2_with fail
      refine (t_of HT6.out fun K h => space_exit_no gS K _ 32 32 0 w6 k WK.out HN.out h).mono ?_
      rintro e w7 ⟨rfl, ht⟩
      have HT7 := Lib.hid ht
      clear ht
      go_wp2_with fail
      refine (t_of HT7.out fun K h => space_fork_no gS K _ 32 32 0 w7 k WK.out HN.out h 0 (by decide)).mono ?_
      rintro e w8 ⟨rfl, ht⟩
      have HT8 := Lib.hid ht
      clear ht
      go_wp2_with fail
      rw [show (#[.int .i64 0, .int .i64 0, .bool false, .int .i64 0, .int .i64 0, .int .i64 0] : Array Value) = (arL ar0).toArray from rfl]
      refine (t_of HT8.out fun K h => space_map_no gS K _ 32 32 0 w8 k WK.out HN.out h ar0 (by decide)).mono ?_
      rintro e w9 ⟨rfl, ht⟩
      have HT9 := Lib.hid ht
      clear ht
      go_wp2_with fail
      refine (t_of HT9.out fun K h => space_unmap_no gS K _ 32 32 0 w9 k WK.out HN.out h 0 1 (by decide) (by decide)).mono ?_
      rintro e w10 ⟨rfl, ht⟩
      have HT10 := Lib.hid ht
      clear ht
      go_wp2_with fail
      refine (t_of HT10.out fun K h => space_protect_no gS K _ 32 32 0 w10 k WK.out HN.out h 0 1 true (by decide) (by decide)).mono ?_
      rintro e w11 ⟨rfl, ht⟩
      have HT11 := Lib.hid ht
      clear ht
      go_wp2_with fail
      refine (t_of HT11.out fun K h => space_store_none gS K _ 32 32 0 w11 k WK.out HN.out h x WX.out).mono ?_
      rintro e w12 ⟨rfl, ht⟩
      have HT12 := Lib.hid ht
      clear ht
      go_wp2_with fail
      refine (t_of HT12.out fun K h => space_tree_no gS K _ 32 32 0 w12 k WK.out HN.out h).mono ?_
      rintro e w13 ⟨rfl, ht⟩
      have HT13 := Lib.hid ht
      clear ht
      go_wp2_with fail
      obtain ⟨KX, hx1, hx2, hx3, hx4, hx5⟩ := HT13.out
      refine (space_areas_no gS KX _ 32 32 0 w13 k WK.out HN.out hx1).mono ?_
      rintro e w14 ⟨v14, hp, hg⟩
      obtain ⟨rfl, ht⟩ := SpT.of_post hx1 hx2 hx3 hx4 hx5 hp
      have HT14 := Lib.hid ht
      obtain ⟨A14, n14, c14, rfl, hn14, -⟩ := hg
      have hn14 : 0 = n14 := hn14
      subst hn14
      clear hx1 hx2 hx3 hx4 hx5 hp ht
      go_wp2_with fail
      obtain ⟨KX, hx1, hx2, hx3, hx4, hx5⟩ := HT14.out
      refine (space_procs gS KX _ 32 32 0 w14 hx1).mono ?_
      rintro e w15 ⟨v15, hp, hg⟩
      rw [HP0.out] at hg
      obtain ⟨rfl, ht⟩ := SpT.of_post hx1 hx2 hx3 hx4 hx5 hp
      have HT15 := Lib.hid ht
      obtain ⟨A15, n15, c15, rfl, hn15, -⟩ := hg
      have hn15 : 0 = n15 := hn15
      subst hn15
      clear hx1 hx2 hx3 hx4 hx5 hp ht
      go_wp2_with fail
      refine (t_of HT15.out fun K h => space_put_no gS K _ 32 32 0 w15 k WK.out HN.out h 0 0 0 false (by decide) (by decide) (by decide)).mono ?_
      rintro e w16 ⟨rfl, ht⟩
      have HB := Lib.hid ht.below
      clear ht
      go_wp2
      go_ret
      exact ⟨rfl, HB.out⟩
    · have t1 : decide ((0 : Int) ≤ n) = false := decide_eq_false d
      clear c
      obtain ⟨k, rfl⟩ : ∃ k, k = n := ⟨_, rfl⟩
      go_enter Tryz.func7, Tryz.ntmps7
      go_wp2_with fail
      refine (fresh_any 1 1 (by omega) (by omega) w).mono ?_
      intro e w1 hf
      obtain ⟨gS, gW, fl, rfl, ht1⟩ := SpT.begin hf
      have HT1 := Lib.hid ht1
      clear hf ht1
      have hN := noPr0 fl k
      have HN := Lib.hid hN
      clear hN
      obtain ⟨W0, hW0⟩ : ∃ W0, W0 = uw0 fl := ⟨_, rfl⟩
      have HP0 := Lib.hid (show procsU W0 = [] from by rw [hW0]; exact procs0 fl)
      rw [← hW0] at HT1 HN
      clear hW0
      go_wp2_with fail
      refine (t_of HT1.out fun K h => space_load_none gS K _ 32 32 0 w1 k WK.out HN.out h x 1 WX.out (by decide)).mono ?_
      rintro e w2 ⟨rfl, ht⟩
      have HT2 := Lib.hid ht
      clear ht
      go_wp2_with fail
      refine (t_of HT2.out fun K h => space_signal_no gS K _ 32 32 0 w2 k WK.out HN.out h).mono ?_
      rintro e w3 ⟨rfl, ht⟩
      have HT3 := Lib.hid ht
      clear ht
      have HT3' := Lib.hid (HT3.out.made 44 #[.int .i64 0, .int .i64 0])
      clear HT3
      go_wp2_with fail
      refine (t_of HT3'.out fun K h => space_tell_no gS K _ 32 32 0 _ k WK.out HN.out h x WX.out).mono ?_
      rintro e w4 ⟨rfl, ht⟩
      have HT4 := Lib.hid ht
      clear ht
      go_wp2_with fail
      refine (spaceAnswers_any w4).mono ?_
      rintro e w5 ⟨rfl, hb⟩
      have HT5 := Lib.hid (HT4.out.fresh hb)
      clear hb
      go_wp2_with fail
      refine (t_of HT5.out fun K h => space_spawn_arg gS K _ 32 32 0 w5 k WK.out h HK.out).mono ?_
      rintro e w6 ⟨rfl, ht⟩
      have HT6 := Lib.hid ht
      clear ht
      go_wp2_with fail
      refine (t_of HT6.out fun K h => space_exit_no gS K _ 32 32 0 w6 k WK.out HN.out h).mono ?_
      rintro e w7 ⟨rfl, ht⟩
      have HT7 := Lib.hid ht
      clear ht
      go_wp2_with fail
      refine (t_of HT7.out fun K h => space_fork_no gS K _ 32 32 0 w7 k WK.out HN.out h 0 (by decide)).mono ?_
      rintro e w8 ⟨rfl, ht⟩
      have HT8 := Lib.hid ht
      clear ht
      go_wp2_with fail
      rw [show (#[.int .i64 0, .int .i64 0, .bool false, .int .i64 0, .int .i64 0, .int .i64 0] : Array Value) = (arL ar0).toArray from rfl]
      refine (t_of HT8.out fun K h => space_map_no gS K _ 32 32 0 w8 k WK.out HN.out h ar0 (by decide)).mono ?_
      rintro e w9 ⟨rfl, ht⟩
      have HT9 := Lib.hid ht
      clear ht
      go_wp2_with fail
      refine (t_of HT9.out fun K h => space_unmap_no gS K _ 32 32 0 w9 k WK.out HN.out h 0 1 (by decide) (by decide)).mono ?_
      rintro e w10 ⟨rfl, ht⟩
      have HT10 := Lib.hid ht
      clear ht
      go_wp2_with fail
      refine (t_of HT10.out fun K h => space_protect_no gS K _ 32 32 0 w10 k WK.out HN.out h 0 1 true (by decide) (by decide)).mono ?_
      rintro e w11 ⟨rfl, ht⟩
      have HT11 := Lib.hid ht
      clear ht
      go_wp2_with fail
      refine (t_of HT11.out fun K h => space_store_none gS K _ 32 32 0 w11 k WK.out HN.out h x WX.out).mono ?_
      rintro e w12 ⟨rfl, ht⟩
      have HT12 := Lib.hid ht
      clear ht
      go_wp2_with fail
      refine (t_of HT12.out fun K h => space_tree_no gS K _ 32 32 0 w12 k WK.out HN.out h).mono ?_
      rintro e w13 ⟨rfl, ht⟩
      have HT13 := Lib.hid ht
      clear ht
      go_wp2_with fail
      obtain ⟨KX, hx1, hx2, hx3, hx4, hx5⟩ := HT13.out
      refine (space_areas_no gS KX _ 32 32 0 w13 k WK.out HN.out hx1).mono ?_
      rintro e w14 ⟨v14, hp, hg⟩
      obtain ⟨rfl, ht⟩ := SpT.of_post hx1 hx2 hx3 hx4 hx5 hp
      have HT14 := Lib.hid ht
      obtain ⟨A14, n14, c14, rfl, hn14, -⟩ := hg
      have hn14 : 0 = n14 := hn14
      subst hn14
      clear hx1 hx2 hx3 hx4 hx5 hp ht
      go_wp2_with fail
      obtain ⟨KX, hx1, hx2, hx3, hx4, hx5⟩ := HT14.out
      refine (space_procs gS KX _ 32 32 0 w14 hx1).mono ?_
      rintro e w15 ⟨v15, hp, hg⟩
      rw [HP0.out] at hg
      obtain ⟨rfl, ht⟩ := SpT.of_post hx1 hx2 hx3 hx4 hx5 hp
      have HT15 := Lib.hid ht
      obtain ⟨A15, n15, c15, rfl, hn15, -⟩ := hg
      have hn15 : 0 = n15 := hn15
      subst hn15
      clear hx1 hx2 hx3 hx4 hx5 hp ht
      go_wp2_with fail
      refine (t_of HT15.out fun K h => space_put_no gS K _ 32 32 0 w15 k WK.out HN.out h 0 0 0 false (by decide) (by decide) (by decide)).mono ?_
      rintro e w16 ⟨rfl, ht⟩
      have HB := Lib.hid ht.below
      clear ht
      go_wp2
      go_ret
      exact ⟨rfl, HB.out⟩
end Go.Proofs.YtgjkdnpidobabaaGreat

