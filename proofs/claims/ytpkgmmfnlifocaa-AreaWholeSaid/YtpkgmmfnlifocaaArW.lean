/-
  AreaWhole answers true.
  Conditions: the list is read in memory; the numbers are an int's.
-/
import Derived.Test.YtpkgmmfnlifocaaArS
import Derived.Test.YtpkgmmfnlifocaaArC
import Derived.Test.YtpkgmmfnlifocaaArQ
import Derived.Test.YtpkgmmfnlifocaaArG
namespace Go.Proofs.Ytpkgmmfnlifocaa
open Go.RowKit
set_option linter.unusedVariables false
set_option maxRecDepth 20000
set_option maxHeartbeats 3200000
theorem areaWhole_edge (A : Option Addr) (l c : Nat) (f p x : Int) (w : World) (h : 5 < l) :
    Calls Try.prog 7 #[.slice A l c, .int .i64 f, .int .i64 p, .int .u16 x] w fun e w' => e = .returned (.bool true) ∧ Below w.heap.size w w' := by
  have t1 : decide ((5 : Int) < (l : Int)) = true := decide_eq_true (by omega)
  clear h
  go_enter Try.func7, Try.ntmps7
  go_wp2_with fail
  refine (areaAnswers_any _).mono ?_
  rintro e w1 ⟨rfl, hb⟩
  go_wp2
  go_ret
  exact ⟨rfl, hb⟩
theorem areaWhole_any (v0 : Value) (l : List Ar) (f p : Int) (x : Nat) (w : World) (h : Ars w w.heap.size v0 l) (wf : (Lit.int .i64 f).wf = true) (wp : (Lit.int .i64 p).wf = true) (hx : x < 65536) (hl : l.length ≤ 5) :
    Calls Try.prog 7 #[v0, .int .i64 f, .int .i64 p, .int .u16 (x : Int)] w fun e w' => e = .returned (.bool true) ∧ Below w.heap.size w w' := by
  have HX := Lib.hid h
  have WF := Lib.hid wf
  have WP := Lib.hid wp
  obtain ⟨A, n, c, rfl, hn, hnc, hc, -, -⟩ := h
  have HN := Lib.hid hn
  have hn1 : n ≤ 5 := by omega
  unfold maxLen at hc
  have t1 : decide ((5 : Int) < (n : Int)) = false := decide_eq_false (by omega)
  have CL := Lib.hid (refList_any _ l w HX.out)
  have HNL := Lib.hid hl
  obtain ⟨r, hr⟩ : ∃ r, r = x % 4096 := ⟨_, rfl⟩
  have r1 : (x : Int).tmod 4096 = (r : Int) := by rw [Int.tmod_eq_emod_of_nonneg (by omega)]; omega
  have r2 : (x : Int) % 4096 = (r : Int) := by omega
  have r3 : r < 4096 := by omega
  clear hr hx
  clear hn hl wf wp
  by_cases hli : listA l
  · rw [decide_eq_true hli] at CL
    have LI := Lib.hid hli
    clear hli
    go_enter Try.func7, Try.ntmps7
    go_wp2_with fail
    refine CL.out.mono ?_
    rintro e w1 ⟨rfl, hb⟩
    have B1 := Lib.hid hb
    have X1 := Lib.hid (HX.out.fresh hb)
    have CR := Lib.hid (refRight_any f p w1)
    clear hb
    by_cases hr : rightA f p
    · rw [decide_eq_true hr] at CR
      have HR := Lib.hid hr
      have CA := Lib.hid (area_cut w1 _ l 0 4096 (by decide) (by decide) X1.out LI.out (by have := HNL.out; omega))
      have hE : cutE l 0 4096 = 0 := by unfold cutE; rw [if_pos (by decide), out_all LI.out, if_neg (by decide)]
      have hL : cutL l 0 4096 = [] := by unfold cutL; rw [if_pos hE, out_all LI.out]
      rw [hE, hL] at CA
      clear hE hL
      go_wp2_with (go_at_call 18; refine CR.out.mono ?_; rintro e w' ⟨rfl, rfl⟩)
      refine CA.out.mono ?_
      rintro e w2 ⟨v9, rfl, hm, hb⟩
      obtain ⟨A9, n9, c9, rfl, hn9, -⟩ := hm
      obtain rfl : n9 = 0 := hn9.symm
      have B2 := Lib.hid (B1.out.trans (hb.mono B1.out.size))
      have X2 := Lib.hid (X1.out.fresh hb)
      have CB := Lib.hid (area_protect w2 _ l f p false WF.out WP.out X2.out LI.out (by have := HNL.out; omega))
      clear hb hn9
      by_cases hE : protE l f p false = 0
      · have hL : protL l f p false = protO l f p false := by unfold protL; rw [if_pos hE]
        rw [hE, hL] at CB
        have LO := Lib.hid (protO_list (b := false) LI.out hr)
        clear hE hL
        go_wp2_with fail
        refine CB.out.mono ?_
        rintro e w3s ⟨vb, rfl, hm, hb⟩
        have B3s := Lib.hid (B2.out.trans (hb.mono B2.out.size))
        have X3s := Lib.hid (X2.out.fresh hb)
        have M3s := Lib.hid hm
        clear hb hm
        obtain ⟨s1, s2, s3, s4⟩ := hr
        have hpf := prot_find (b := false) (q := (r : Int)) LI.out HR.out ⟨by omega, by omega⟩
        by_cases hin : f ≤ (r : Int) ∧ (r : Int) < f + p
        · obtain ⟨i1, i2⟩ := hin
          have d1 : decide (f ≤ (r : Int)) = true := decide_eq_true i1
          have d2 : decide ((r : Int) < f + p) = true := decide_eq_true i2
          rcases hpf with ⟨hfa, hfo⟩ | ⟨a, b, hfa, hfo, hk, hw⟩
          · have HFA := Lib.hid hfa
            have HFO := Lib.hid hfo
            clear hfa hfo
            have CF := Lib.hid (find_none_any w3s _ l (r : Int) X3s.out LI.out ⟨by omega, by omega⟩ HFA.out)
            go_wp2_with fail
            refine CF.out.mono ?_
            rintro e w3 ⟨rfl, hb⟩
            obtain ⟨W3, hW3⟩ : ∃ W3, W3 = w3.alloc (.cells #[.int .i64 0, .int .i64 0, .bool false, .int .i64 0, .int .i64 0, .int .i64 0] 23) := ⟨_, rfl⟩
            have hb3 : Below w3s.heap.size w3s W3 := by rw [hW3]; exact hb.alloc hb.size _
            have B3 := Lib.hid (B3s.out.trans (hb3.mono B3s.out.size))
            have M3 := Lib.hid (M3s.out.fresh hb3)
            have K3 := Lib.hid (show Blk W3 w3.heap.size 23 #[.int .i64 0, .int .i64 0, .bool false, .int .i64 0, .int .i64 0, .int .i64 0] from by rw [hW3]; exact Blk.new _ _ _)
            have CG := Lib.hid (find_none_any W3 _ (protO l f p false) (r : Int) M3.out LO.out ⟨by omega, by omega⟩ HFO.out)
            clear hb hb3
            go_wp2_with fail
            rw [← hW3]
            clear hW3
            refine CG.out.mono ?_
            rintro e w4 ⟨rfl, hb⟩
            obtain ⟨W4, hW4⟩ : ∃ W4, W4 = w4.alloc (.cells #[.int .i64 0, .int .i64 0, .bool false, .int .i64 0, .int .i64 0, .int .i64 0] 23) := ⟨_, rfl⟩
            have hb4 : Below W3.heap.size W3 W4 := by rw [hW4]; exact hb.alloc hb.size _
            have B4 := Lib.hid (B3.out.trans (hb4.mono B3.out.size))
            have K34 := Lib.hid (K3.out.below hb4 K3.out.lt)
            have K4 := Lib.hid (show Blk W4 w4.heap.size 23 #[.int .i64 0, .int .i64 0, .bool false, .int .i64 0, .int .i64 0, .int .i64 0] from by rw [hW4]; exact Blk.new _ _ _)
            clear hb hb4
            go_wp2_with fail
            rw [← hW4]
            clear hW4
            refine (areaAnswers_any _).mono ?_
            rintro e wz ⟨rfl, hb⟩
            have BZ := Lib.hid (B4.out.trans (hb.mono B4.out.size))
            have KA := Lib.hid (K34.out.below hb K34.out.lt)
            have KB := Lib.hid (K4.out.below hb K4.out.lt)
            clear hb
            go_wp2
            go_ret
            exact ⟨rfl, BZ.out⟩
          · obtain ⟨afr, apg, aw, akd, afl, aofs⟩ := a
            obtain ⟨bfr, bpg, bw, bkd, bfl, bofs⟩ := b
            rw [if_pos ⟨i1, i2⟩] at hw
            simp only at hk hw
            subst hk hw
            have f1 : (bkd == bkd) = true := by simp
            cases aw
            · have HFA := Lib.hid hfa
              have HFO := Lib.hid hfo
              clear hfa hfo
              have CF := Lib.hid (find_some_any w3s _ l (r : Int) _ _ _ _ _ _ X3s.out LI.out ⟨by omega, by omega⟩ HFA.out)
              go_wp2_with fail
              refine CF.out.mono ?_
              rintro e w3 ⟨rfl, hb⟩
              obtain ⟨W3, hW3⟩ : ∃ W3, W3 = w3.alloc (.cells #[.int .i64 afr, .int .i64 apg, .bool false, .int .i64 bkd, .int .i64 afl, .int .i64 aofs] 23) := ⟨_, rfl⟩
              have hb3 : Below w3s.heap.size w3s W3 := by rw [hW3]; exact hb.alloc hb.size _
              have B3 := Lib.hid (B3s.out.trans (hb3.mono B3s.out.size))
              have M3 := Lib.hid (M3s.out.fresh hb3)
              have K3 := Lib.hid (show Blk W3 w3.heap.size 23 #[.int .i64 afr, .int .i64 apg, .bool false, .int .i64 bkd, .int .i64 afl, .int .i64 aofs] from by rw [hW3]; exact Blk.new _ _ _)
              have CG := Lib.hid (find_some_any W3 _ (protO l f p false) (r : Int) _ _ _ _ _ _ M3.out LO.out ⟨by omega, by omega⟩ HFO.out)
              clear hb hb3
              go_wp2_with fail
              rw [← hW3]
              clear hW3
              refine CG.out.mono ?_
              rintro e w4 ⟨rfl, hb⟩
              obtain ⟨W4, hW4⟩ : ∃ W4, W4 = w4.alloc (.cells #[.int .i64 bfr, .int .i64 bpg, .bool false, .int .i64 bkd, .int .i64 bfl, .int .i64 bofs] 23) := ⟨_, rfl⟩
              have hb4 : Below W3.heap.size W3 W4 := by rw [hW4]; exact hb.alloc hb.size _
              have B4 := Lib.hid (B3.out.trans (hb4.mono B3.out.size))
              have K34 := Lib.hid (K3.out.below hb4 K3.out.lt)
              have K4 := Lib.hid (show Blk W4 w4.heap.size 23 #[.int .i64 bfr, .int .i64 bpg, .bool false, .int .i64 bkd, .int .i64 bfl, .int .i64 bofs] from by rw [hW4]; exact Blk.new _ _ _)
              clear hb hb4
              go_wp2_with fail
              rw [← hW4]
              clear hW4
              refine (areaAnswers_any _).mono ?_
              rintro e wz ⟨rfl, hb⟩
              have BZ := Lib.hid (B4.out.trans (hb.mono B4.out.size))
              have KA := Lib.hid (K34.out.below hb K34.out.lt)
              have KB := Lib.hid (K4.out.below hb K4.out.lt)
              clear hb
              have ka0 := KA.out.cell 0
              have kb0 := KB.out.cell 0
              have ka1 := KA.out.cell 1
              have kb1 := KB.out.cell 1
              have ka2 := KA.out.cell 2
              have kb2 := KB.out.cell 2
              have ka3 := KA.out.cell 3
              have kb3 := KB.out.cell 3
              have ka4 := KA.out.cell 4
              have kb4 := KB.out.cell 4
              have ka5 := KA.out.cell 5
              have kb5 := KB.out.cell 5
              go_wp2
              go_ret
              exact ⟨rfl, BZ.out⟩
            · have HFA := Lib.hid hfa
              have HFO := Lib.hid hfo
              clear hfa hfo
              have CF := Lib.hid (find_some_any w3s _ l (r : Int) _ _ _ _ _ _ X3s.out LI.out ⟨by omega, by omega⟩ HFA.out)
              go_wp2_with fail
              refine CF.out.mono ?_
              rintro e w3 ⟨rfl, hb⟩
              obtain ⟨W3, hW3⟩ : ∃ W3, W3 = w3.alloc (.cells #[.int .i64 afr, .int .i64 apg, .bool true, .int .i64 bkd, .int .i64 afl, .int .i64 aofs] 23) := ⟨_, rfl⟩
              have hb3 : Below w3s.heap.size w3s W3 := by rw [hW3]; exact hb.alloc hb.size _
              have B3 := Lib.hid (B3s.out.trans (hb3.mono B3s.out.size))
              have M3 := Lib.hid (M3s.out.fresh hb3)
              have K3 := Lib.hid (show Blk W3 w3.heap.size 23 #[.int .i64 afr, .int .i64 apg, .bool true, .int .i64 bkd, .int .i64 afl, .int .i64 aofs] from by rw [hW3]; exact Blk.new _ _ _)
              have CG := Lib.hid (find_some_any W3 _ (protO l f p false) (r : Int) _ _ _ _ _ _ M3.out LO.out ⟨by omega, by omega⟩ HFO.out)
              clear hb hb3
              go_wp2_with fail
              rw [← hW3]
              clear hW3
              refine CG.out.mono ?_
              rintro e w4 ⟨rfl, hb⟩
              obtain ⟨W4, hW4⟩ : ∃ W4, W4 = w4.alloc (.cells #[.int .i64 bfr, .int .i64 bpg, .bool false, .int .i64 bkd, .int .i64 bfl, .int .i64 bofs] 23) := ⟨_, rfl⟩
              have hb4 : Below W3.heap.size W3 W4 := by rw [hW4]; exact hb.alloc hb.size _
              have B4 := Lib.hid (B3.out.trans (hb4.mono B3.out.size))
              have K34 := Lib.hid (K3.out.below hb4 K3.out.lt)
              have K4 := Lib.hid (show Blk W4 w4.heap.size 23 #[.int .i64 bfr, .int .i64 bpg, .bool false, .int .i64 bkd, .int .i64 bfl, .int .i64 bofs] from by rw [hW4]; exact Blk.new _ _ _)
              clear hb hb4
              go_wp2_with fail
              rw [← hW4]
              clear hW4
              refine (areaAnswers_any _).mono ?_
              rintro e wz ⟨rfl, hb⟩
              have BZ := Lib.hid (B4.out.trans (hb.mono B4.out.size))
              have KA := Lib.hid (K34.out.below hb K34.out.lt)
              have KB := Lib.hid (K4.out.below hb K4.out.lt)
              clear hb
              have ka0 := KA.out.cell 0
              have kb0 := KB.out.cell 0
              have ka1 := KA.out.cell 1
              have kb1 := KB.out.cell 1
              have ka2 := KA.out.cell 2
              have kb2 := KB.out.cell 2
              have ka3 := KA.out.cell 3
              have kb3 := KB.out.cell 3
              have ka4 := KA.out.cell 4
              have kb4 := KB.out.cell 4
              have ka5 := KA.out.cell 5
              have kb5 := KB.out.cell 5
              go_wp2
              go_ret
              exact ⟨rfl, BZ.out⟩
        · have hor : (decide (f ≤ (r : Int)) = false ∧ (r : Int) < f) ∨ (decide (f ≤ (r : Int)) = true ∧ decide ((r : Int) < f + p) = false ∧ f ≤ (r : Int) ∧ f + p ≤ (r : Int)) := by
            by_cases c : f ≤ (r : Int)
            · exact .inr ⟨decide_eq_true c, decide_eq_false (by omega), c, by omega⟩
            · exact .inl ⟨decide_eq_false c, by omega⟩
          rcases hpf with ⟨hfa, hfo⟩ | ⟨a, b, hfa, hfo, hk, hw⟩
          · have HFA := Lib.hid hfa
            have HFO := Lib.hid hfo
            clear hfa hfo hin
            rcases hor with ⟨d1, d2⟩ | ⟨d1, d2, d3, d4⟩
            all_goals
              have CF := Lib.hid (find_none_any w3s _ l (r : Int) X3s.out LI.out ⟨by omega, by omega⟩ HFA.out)
              go_wp2_with fail
              refine CF.out.mono ?_
              rintro e w3 ⟨rfl, hb⟩
              obtain ⟨W3, hW3⟩ : ∃ W3, W3 = w3.alloc (.cells #[.int .i64 0, .int .i64 0, .bool false, .int .i64 0, .int .i64 0, .int .i64 0] 23) := ⟨_, rfl⟩
              have hb3 : Below w3s.heap.size w3s W3 := by rw [hW3]; exact hb.alloc hb.size _
              have B3 := Lib.hid (B3s.out.trans (hb3.mono B3s.out.size))
              have M3 := Lib.hid (M3s.out.fresh hb3)
              have K3 := Lib.hid (show Blk W3 w3.heap.size 23 #[.int .i64 0, .int .i64 0, .bool false, .int .i64 0, .int .i64 0, .int .i64 0] from by rw [hW3]; exact Blk.new _ _ _)
              have CG := Lib.hid (find_none_any W3 _ (protO l f p false) (r : Int) M3.out LO.out ⟨by omega, by omega⟩ HFO.out)
              clear hb hb3
              go_wp2_with fail
              rw [← hW3]
              clear hW3
              refine CG.out.mono ?_
              rintro e w4 ⟨rfl, hb⟩
              obtain ⟨W4, hW4⟩ : ∃ W4, W4 = w4.alloc (.cells #[.int .i64 0, .int .i64 0, .bool false, .int .i64 0, .int .i64 0, .int .i64 0] 23) := ⟨_, rfl⟩
              have hb4 : Below W3.heap.size W3 W4 := by rw [hW4]; exact hb.alloc hb.size _
              have B4 := Lib.hid (B3.out.trans (hb4.mono B3.out.size))
              have K34 := Lib.hid (K3.out.below hb4 K3.out.lt)
              have K4 := Lib.hid (show Blk W4 w4.heap.size 23 #[.int .i64 0, .int .i64 0, .bool false, .int .i64 0, .int .i64 0, .int .i64 0] from by rw [hW4]; exact Blk.new _ _ _)
              clear hb hb4
              go_wp2_with fail
              rw [← hW4]
              clear hW4
              refine (areaAnswers_any _).mono ?_
              rintro e wz ⟨rfl, hb⟩
              have BZ := Lib.hid (B4.out.trans (hb.mono B4.out.size))
              have KA := Lib.hid (K34.out.below hb K34.out.lt)
              have KB := Lib.hid (K4.out.below hb K4.out.lt)
              clear hb
              go_wp2
              go_ret
              exact ⟨rfl, BZ.out⟩
          · obtain ⟨afr, apg, aw, akd, afl, aofs⟩ := a
            obtain ⟨bfr, bpg, bw, bkd, bfl, bofs⟩ := b
            rw [if_neg hin] at hw
            simp only at hk hw
            subst hk hw
            clear hin
            have f1 : (bkd == bkd) = true := by simp
            cases bw
            · have HFA := Lib.hid hfa
              have HFO := Lib.hid hfo
              clear hfa hfo
              rcases hor with ⟨d1, d2⟩ | ⟨d1, d2, d3, d4⟩
              all_goals
                have CF := Lib.hid (find_some_any w3s _ l (r : Int) _ _ _ _ _ _ X3s.out LI.out ⟨by omega, by omega⟩ HFA.out)
                go_wp2_with fail
                refine CF.out.mono ?_
                rintro e w3 ⟨rfl, hb⟩
                obtain ⟨W3, hW3⟩ : ∃ W3, W3 = w3.alloc (.cells #[.int .i64 afr, .int .i64 apg, .bool false, .int .i64 bkd, .int .i64 afl, .int .i64 aofs] 23) := ⟨_, rfl⟩
                have hb3 : Below w3s.heap.size w3s W3 := by rw [hW3]; exact hb.alloc hb.size _
                have B3 := Lib.hid (B3s.out.trans (hb3.mono B3s.out.size))
                have M3 := Lib.hid (M3s.out.fresh hb3)
                have K3 := Lib.hid (show Blk W3 w3.heap.size 23 #[.int .i64 afr, .int .i64 apg, .bool false, .int .i64 bkd, .int .i64 afl, .int .i64 aofs] from by rw [hW3]; exact Blk.new _ _ _)
                have CG := Lib.hid (find_some_any W3 _ (protO l f p false) (r : Int) _ _ _ _ _ _ M3.out LO.out ⟨by omega, by omega⟩ HFO.out)
                clear hb hb3
                go_wp2_with fail
                rw [← hW3]
                clear hW3
                refine CG.out.mono ?_
                rintro e w4 ⟨rfl, hb⟩
                obtain ⟨W4, hW4⟩ : ∃ W4, W4 = w4.alloc (.cells #[.int .i64 bfr, .int .i64 bpg, .bool false, .int .i64 bkd, .int .i64 bfl, .int .i64 bofs] 23) := ⟨_, rfl⟩
                have hb4 : Below W3.heap.size W3 W4 := by rw [hW4]; exact hb.alloc hb.size _
                have B4 := Lib.hid (B3.out.trans (hb4.mono B3.out.size))
                have K34 := Lib.hid (K3.out.below hb4 K3.out.lt)
                have K4 := Lib.hid (show Blk W4 w4.heap.size 23 #[.int .i64 bfr, .int .i64 bpg, .bool false, .int .i64 bkd, .int .i64 bfl, .int .i64 bofs] from by rw [hW4]; exact Blk.new _ _ _)
                clear hb hb4
                go_wp2_with fail
                rw [← hW4]
                clear hW4
                refine (areaAnswers_any _).mono ?_
                rintro e wz ⟨rfl, hb⟩
                have BZ := Lib.hid (B4.out.trans (hb.mono B4.out.size))
                have KA := Lib.hid (K34.out.below hb K34.out.lt)
                have KB := Lib.hid (K4.out.below hb K4.out.lt)
                clear hb
                have ka0 := KA.out.cell 0
                have kb0 := KB.out.cell 0
                have ka1 := KA.out.cell 1
                have kb1 := KB.out.cell 1
                have ka2 := KA.out.cell 2
                have kb2 := KB.out.cell 2
                have ka3 := KA.out.cell 3
                have kb3 := KB.out.cell 3
                have ka4 := KA.out.cell 4
                have kb4 := KB.out.cell 4
                have ka5 := KA.out.cell 5
                have kb5 := KB.out.cell 5
                go_wp2
                go_ret
                exact ⟨rfl, BZ.out⟩
            · have HFA := Lib.hid hfa
              have HFO := Lib.hid hfo
              clear hfa hfo
              rcases hor with ⟨d1, d2⟩ | ⟨d1, d2, d3, d4⟩
              all_goals
                have CF := Lib.hid (find_some_any w3s _ l (r : Int) _ _ _ _ _ _ X3s.out LI.out ⟨by omega, by omega⟩ HFA.out)
                go_wp2_with fail
                refine CF.out.mono ?_
                rintro e w3 ⟨rfl, hb⟩
                obtain ⟨W3, hW3⟩ : ∃ W3, W3 = w3.alloc (.cells #[.int .i64 afr, .int .i64 apg, .bool true, .int .i64 bkd, .int .i64 afl, .int .i64 aofs] 23) := ⟨_, rfl⟩
                have hb3 : Below w3s.heap.size w3s W3 := by rw [hW3]; exact hb.alloc hb.size _
                have B3 := Lib.hid (B3s.out.trans (hb3.mono B3s.out.size))
                have M3 := Lib.hid (M3s.out.fresh hb3)
                have K3 := Lib.hid (show Blk W3 w3.heap.size 23 #[.int .i64 afr, .int .i64 apg, .bool true, .int .i64 bkd, .int .i64 afl, .int .i64 aofs] from by rw [hW3]; exact Blk.new _ _ _)
                have CG := Lib.hid (find_some_any W3 _ (protO l f p false) (r : Int) _ _ _ _ _ _ M3.out LO.out ⟨by omega, by omega⟩ HFO.out)
                clear hb hb3
                go_wp2_with fail
                rw [← hW3]
                clear hW3
                refine CG.out.mono ?_
                rintro e w4 ⟨rfl, hb⟩
                obtain ⟨W4, hW4⟩ : ∃ W4, W4 = w4.alloc (.cells #[.int .i64 bfr, .int .i64 bpg, .bool true, .int .i64 bkd, .int .i64 bfl, .int .i64 bofs] 23) := ⟨_, rfl⟩
                have hb4 : Below W3.heap.size W3 W4 := by rw [hW4]; exact hb.alloc hb.size _
                have B4 := Lib.hid (B3.out.trans (hb4.mono B3.out.size))
                have K34 := Lib.hid (K3.out.below hb4 K3.out.lt)
                have K4 := Lib.hid (show Blk W4 w4.heap.size 23 #[.int .i64 bfr, .int .i64 bpg, .bool true, .int .i64 bkd, .int .i64 bfl, .int .i64 bofs] from by rw [hW4]; exact Blk.new _ _ _)
                clear hb hb4
                go_wp2_with fail
                rw [← hW4]
                clear hW4
                refine (areaAnswers_any _).mono ?_
                rintro e wz ⟨rfl, hb⟩
                have BZ := Lib.hid (B4.out.trans (hb.mono B4.out.size))
                have KA := Lib.hid (K34.out.below hb K34.out.lt)
                have KB := Lib.hid (K4.out.below hb K4.out.lt)
                clear hb
                have ka0 := KA.out.cell 0
                have kb0 := KB.out.cell 0
                have ka1 := KA.out.cell 1
                have kb1 := KB.out.cell 1
                have ka2 := KA.out.cell 2
                have kb2 := KB.out.cell 2
                have ka3 := KA.out.cell 3
                have kb3 := KB.out.cell 3
                have ka4 := KA.out.cell 4
                have kb4 := KB.out.cell 4
                have ka5 := KA.out.cell 5
                have kb5 := KB.out.cell 5
                go_wp2
                go_ret
                exact ⟨rfl, BZ.out⟩
      · have e1 : (protE l f p false != 0) = true := by simp [hE]
        obtain ⟨E, hEE⟩ : ∃ E, E = protE l f p false := ⟨_, rfl⟩
        rw [← hEE] at CB e1
        clear hE hEE
        go_wp2_with fail
        refine CB.out.mono ?_
        rintro e w3s ⟨vb, rfl, -, hb⟩
        have B3s := Lib.hid (B2.out.trans (hb.mono B2.out.size))
        clear hb
        go_wp2_with fail
        refine (areaAnswers_any _).mono ?_
        rintro e wz ⟨rfl, hb⟩
        have BZ := Lib.hid (B3s.out.trans (hb.mono B3s.out.size))
        clear hb
        go_wp2
        go_ret
        exact ⟨rfl, BZ.out⟩
    · rw [decide_eq_false hr] at CR
      clear hr
      go_wp2_with (go_at_call 18; refine CR.out.mono ?_; rintro e w' ⟨rfl, rfl⟩)
      refine (areaAnswers_any _).mono ?_
      rintro e wz ⟨rfl, hb⟩
      have BZ := Lib.hid (B1.out.trans (hb.mono B1.out.size))
      clear hb
      go_wp2
      go_ret
      exact ⟨rfl, BZ.out⟩
  · rw [decide_eq_false hli] at CL
    clear hli
    go_enter Try.func7, Try.ntmps7
    go_wp2_with fail
    refine CL.out.mono ?_
    rintro e w1 ⟨rfl, hb⟩
    have B1 := Lib.hid hb
    clear hb
    go_wp2_with fail
    refine (areaAnswers_any _).mono ?_
    rintro e wz ⟨rfl, hb⟩
    have BZ := Lib.hid (B1.out.trans (hb.mono B1.out.size))
    clear hb
    go_wp2
    go_ret
    exact ⟨rfl, BZ.out⟩
end Go.Proofs.Ytpkgmmfnlifocaa
