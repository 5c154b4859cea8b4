/-
  AreaPages answers true.
  Conditions: the list is read in memory; the numbers are an int's.
-/
import Derived.Test.YtpkgmmfnlifocaaArS
import Derived.Test.YtpkgmmfnlifocaaArC
import Derived.Test.YtpkgmmfnlifocaaArQ
namespace Go.Proofs.Ytpkgmmfnlifocaa
open Go.RowKit
set_option linter.unusedVariables false
set_option maxRecDepth 20000
set_option maxHeartbeats 3200000
theorem find_some_any (w : World) (v : Value) (l : List Ar) (q fr pg : Int) (w0 : Bool) (kd fl ofs : Int) (h : Ars w w.heap.size v l) (hl : listA l) (hq : 0 ≤ q ∧ q ≤ 4096) (e : findA l q = some ⟨fr, pg, w0, kd, fl, ofs⟩) :
    Calls Try.prog 19 #[v, .int .i64 q] w fun e w' => e = .returned (.tuple #[.agg #[.int .i64 fr, .int .i64 pg, .bool w0, .int .i64 kd, .int .i64 fl, .int .i64 ofs], .bool true]) ∧ Below w.heap.size w w' := by
  have := area_find w v l q h hl hq
  rw [e] at this
  exact this
theorem find_none_any (w : World) (v : Value) (l : List Ar) (q : Int) (h : Ars w w.heap.size v l) (hl : listA l) (hq : 0 ≤ q ∧ q ≤ 4096) (e : findA l q = none) :
    Calls Try.prog 19 #[v, .int .i64 q] w fun e w' => e = .returned (.tuple #[.agg #[.int .i64 0, .int .i64 0, .bool false, .int .i64 0, .int .i64 0, .int .i64 0], .bool false]) ∧ Below w.heap.size w w' := by
  have := area_find w v l q h hl hq
  rw [e] at this
  exact this
theorem areaPages_edge (A : Option Addr) (l c : Nat) (f p x : Int) (w : World) (h : 16 < l) :
    Calls Try.prog 6 #[.slice A l c, .int .i64 f, .int .i64 p, .int .u16 x] w fun e w' => e = .returned (.bool true) ∧ Below w.heap.size w w' := by
  have t1 : decide ((16 : Int) < (l : Int)) = true := decide_eq_true (by omega)
  clear h
  go_enter Try.func6, Try.ntmps6
  go_wp2_with fail
  refine (areaAnswers_any _).mono ?_
  rintro e w1 ⟨rfl, hb⟩
  go_wp2
  go_ret
  exact ⟨rfl, hb⟩
theorem areaPages_any (v0 : Value) (l : List Ar) (f p : Int) (x : Nat) (w : World) (h : Ars w w.heap.size v0 l) (wf : (Lit.int .i64 f).wf = true) (wp : (Lit.int .i64 p).wf = true) (hx : x < 65536) (hl : l.length ≤ 16) :
    Calls Try.prog 6 #[v0, .int .i64 f, .int .i64 p, .int .u16 (x : Int)] w fun e w' => e = .returned (.bool true) ∧ Below w.heap.size w w' := by
  have HX := Lib.hid h
  have WF := Lib.hid wf
  have WP := Lib.hid wp
  obtain ⟨A, n, c, rfl, hn, hnc, hc, -, -⟩ := h
  have HN := Lib.hid hn
  have hn1 : n ≤ 16 := by omega
  unfold maxLen at hc
  have t1 : decide ((16 : Int) < (n : Int)) = false := decide_eq_false (by omega)
  have CL := Lib.hid (refList_any _ l w HX.out)
  have HNL := Lib.hid hl
  obtain ⟨r, hr⟩ : ∃ r, r = x % 4096 := ⟨_, rfl⟩
  have r1 : (x : Int).tmod 4096 = (r : Int) := by rw [Int.tmod_eq_emod_of_nonneg (by omega)]; omega
  have r2 : (x : Int) % 4096 = (r : Int) := by omega
  have r3 : r < 4096 := by omega
  clear hr hx
  clear hn hl wf wp
  by_cases hli : listA l
  · rw [decide_eq_true hli] at CL
    have LI := Lib.hid hli
    clear hli
    go_enter Try.func6, Try.ntmps6
    go_wp2_with fail
    refine CL.out.mono ?_
    rintro e w1 ⟨rfl, hb⟩
    have B1 := Lib.hid hb
    have X1 := Lib.hid (HX.out.fresh hb)
    have CA := Lib.hid (area_cut w1 _ l f p WF.out WP.out X1.out LI.out (by have := HNL.out; omega))
    clear hb
    by_cases hE : cutE l f p = 0
    · have hr : rightA f p := by
        unfold cutE at hE
        split at hE
        · assumption
        · cases hE
      have hL : cutL l f p = outA l f p := by unfold cutL; rw [if_pos hE]
      rw [hE, hL] at CA
      have HR := Lib.hid hr
      have LO := Lib.hid (outA_list LI.out hr)
      clear hE hL
      go_wp2_with fail
      refine CA.out.mono ?_
      rintro e w2 ⟨v9, rfl, hm, hb⟩
      have B2 := Lib.hid (B1.out.trans (hb.mono B1.out.size))
      have X2 := Lib.hid (X1.out.fresh hb)
      have M2 := Lib.hid hm
      clear hb hm
      obtain ⟨s1, s2, s3, s4⟩ := hr
      by_cases hin : f ≤ (r : Int) ∧ (r : Int) < f + p
      · obtain ⟨i1, i2⟩ := hin
        have d1 : decide (f ≤ (r : Int)) = true := decide_eq_true i1
        have d2 : decide ((r : Int) < f + p) = true := decide_eq_true i2
        have HFO := Lib.hid (out_in (l := l) HR.out i1 i2)
        cases hfa : findA l (r : Int) with
        | none =>
          have HFA := Lib.hid hfa
          clear hfa
          have CF := Lib.hid (find_none_any w2 _ l (r : Int) X2.out LI.out ⟨by omega, by omega⟩ HFA.out)
          go_wp2_with fail
          refine CF.out.mono ?_
          rintro e w3 ⟨rfl, hb⟩
          obtain ⟨W3, hW3⟩ : ∃ W3, W3 = w3.alloc (.cells #[.int .i64 0, .int .i64 0, .bool false, .int .i64 0, .int .i64 0, .int .i64 0] 23) := ⟨_, rfl⟩
          have hb3 : Below w2.heap.size w2 W3 := by rw [hW3]; exact hb.alloc hb.size _
          have B3 := Lib.hid (B2.out.trans (hb3.mono B2.out.size))
          have M3 := Lib.hid (M2.out.fresh hb3)
          have K3 := Lib.hid (show Blk W3 w3.heap.size 23 #[.int .i64 0, .int .i64 0, .bool false, .int .i64 0, .int .i64 0, .int .i64 0] from by rw [hW3]; exact Blk.new _ _ _)
          have CG := Lib.hid (find_none_any W3 _ (outA l f p) (r : Int) M3.out LO.out ⟨by omega, by omega⟩ HFO.out)
          clear hb hb3
          go_wp2_with fail
          rw [← hW3]
          clear hW3
          refine CG.out.mono ?_
          rintro e w4 ⟨rfl, hb⟩
          obtain ⟨W4, hW4⟩ : ∃ W4, W4 = w4.alloc (.cells #[.int .i64 0, .int .i64 0, .bool false, .int .i64 0, .int .i64 0, .int .i64 0] 23) := ⟨_, rfl⟩
          have hb4 : Below W3.heap.size W3 W4 := by rw [hW4]; exact hb.alloc hb.size _
          have B4 := Lib.hid (B3.out.trans (hb4.mono B3.out.size))
          have K34 := Lib.hid (K3.out.below hb4 K3.out.lt)
          have K4 := Lib.hid (show Blk W4 w4.heap.size 23 #[.int .i64 0, .int .i64 0, .bool false, .int .i64 0, .int .i64 0, .int .i64 0] from by rw [hW4]; exact Blk.new _ _ _)
          clear hb hb4
          go_wp2_with fail
          rw [← hW4]
          clear hW4
          refine (areaAnswers_any _).mono ?_
          rintro e wz ⟨rfl, hb⟩
          have BZ := Lib.hid (B4.out.trans (hb.mono B4.out.size))
          have KA := Lib.hid (K34.out.below hb K34.out.lt)
          have KB := Lib.hid (K4.out.below hb K4.out.lt)
          clear hb
          go_wp2
          go_ret
          exact ⟨rfl, BZ.out⟩
        | some a =>
          have HFA := Lib.hid hfa
          clear hfa
          obtain ⟨afr, apg, aw, akd, afl, aofs⟩ := a
          have CF := Lib.hid (find_some_any w2 _ l (r : Int) _ _ _ _ _ _ X2.out LI.out ⟨by omega, by omega⟩ HFA.out)
          go_wp2_with fail
          refine CF.out.mono ?_
          rintro e w3 ⟨rfl, hb⟩
          obtain ⟨W3, hW3⟩ : ∃ W3, W3 = w3.alloc (.cells #[.int .i64 afr, .int .i64 apg, .bool aw, .int .i64 akd, .int .i64 afl, .int .i64 aofs] 23) := ⟨_, rfl⟩
          have hb3 : Below w2.heap.size w2 W3 := by rw [hW3]; exact hb.alloc hb.size _
          have B3 := Lib.hid (B2.out.trans (hb3.mono B2.out.size))
          have M3 := Lib.hid (M2.out.fresh hb3)
          have K3 := Lib.hid (show Blk W3 w3.heap.size 23 #[.int .i64 afr, .int .i64 apg, .bool aw, .int .i64 akd, .int .i64 afl, .int .i64 aofs] from by rw [hW3]; exact Blk.new _ _ _)
          have CG := Lib.hid (find_none_any W3 _ (outA l f p) (r : Int) M3.out LO.out ⟨by omega, by omega⟩ HFO.out)
          clear hb hb3
          go_wp2_with fail
          rw [← hW3]
          clear hW3
          refine CG.out.mono ?_
          rintro e w4 ⟨rfl, hb⟩
          obtain ⟨W4, hW4⟩ : ∃ W4, W4 = w4.alloc (.cells #[.int .i64 0, .int .i64 0, .bool false, .int .i64 0, .int .i64 0, .int .i64 0] 23) := ⟨_, rfl⟩
          have hb4 : Below W3.heap.size W3 W4 := by rw [hW4]; exact hb.alloc hb.size _
          have B4 := Lib.hid (B3.out.trans (hb4.mono B3.out.size))
          have K34 := Lib.hid (K3.out.below hb4 K3.out.lt)
          have K4 := Lib.hid (show Blk W4 w4.heap.size 23 #[.int .i64 0, .int .i64 0, .bool false, .int .i64 0, .int .i64 0, .int .i64 0] from by rw [hW4]; exact Blk.new _ _ _)
          clear hb hb4
          go_wp2_with fail
          rw [← hW4]
          clear hW4
          refine (areaAnswers_any _).mono ?_
          rintro e wz ⟨rfl, hb⟩
          have BZ := Lib.hid (B4.out.trans (hb.mono B4.out.size))
          have KA := Lib.hid (K34.out.below hb K34.out.lt)
          have KB := Lib.hid (K4.out.below hb K4.out.lt)
          clear hb
          go_wp2
          go_ret
          exact ⟨rfl, BZ.out⟩
      · have hor : (decide (f ≤ (r : Int)) = false ∧ (r : Int) < f) ∨ (decide (f ≤ (r : Int)) = true ∧ decide ((r : Int) < f + p) = false ∧ f ≤ (r : Int) ∧ f + p ≤ (r : Int)) := by
          by_cases c : f ≤ (r : Int)
          · exact .inr ⟨decide_eq_true c, decide_eq_false (by omega), c, by omega⟩
          · exact .inl ⟨decide_eq_false c, by omega⟩
        rcases out_out (q := (r : Int)) LI.out HR.out ⟨by omega, by omega⟩ hin with ⟨hfa, hfo⟩ | ⟨a, b, hfa, hfo, hsm, hsa, hsb, hha, hhb⟩
        · have HFA := Lib.hid hfa
          have HFO := Lib.hid hfo
          clear hfa hfo hin
          rcases hor with ⟨d1, d2⟩ | ⟨d1, d2, d3, d4⟩
          all_goals
            have CF := Lib.hid (find_none_any w2 _ l (r : Int) X2.out LI.out ⟨by omega, by omega⟩ HFA.out)
            go_wp2_with fail
            refine CF.out.mono ?_
            rintro e w3 ⟨rfl, hb⟩
            obtain ⟨W3, hW3⟩ : ∃ W3, W3 = w3.alloc (.cells #[.int .i64 0, .int .i64 0, .bool false, .int .i64 0, .int .i64 0, .int .i64 0] 23) := ⟨_, rfl⟩
            have hb3 : Below w2.heap.size w2 W3 := by rw [hW3]; exact hb.alloc hb.size _
            have B3 := Lib.hid (B2.out.trans (hb3.mono B2.out.size))
            have M3 := Lib.hid (M2.out.fresh hb3)
            have K3 := Lib.hid (show Blk W3 w3.heap.size 23 #[.int .i64 0, .int .i64 0, .bool false, .int .i64 0, .int .i64 0, .int .i64 0] from by rw [hW3]; exact Blk.new _ _ _)
            have CG := Lib.hid (find_none_any W3 _ (outA l f p) (r : Int) M3.out LO.out ⟨by omega, by omega⟩ HFO.out)
            clear hb hb3
            go_wp2_with fail
            rw [← hW3]
            clear hW3
            refine CG.out.mono ?_
            rintro e w4 ⟨rfl, hb⟩
            obtain ⟨W4, hW4⟩ : ∃ W4, W4 = w4.alloc (.cells #[.int .i64 0, .int .i64 0, .bool false, .int .i64 0, .int .i64 0, .int .i64 0] 23) := ⟨_, rfl⟩
            have hb4 : Below W3.heap.size W3 W4 := by rw [hW4]; exact hb.alloc hb.size _
            have B4 := Lib.hid (B3.out.trans (hb4.mono B3.out.size))
            have K34 := Lib.hid (K3.out.below hb4 K3.out.lt)
            have K4 := Lib.hid (show Blk W4 w4.heap.size 23 #[.int .i64 0, .int .i64 0, .bool false, .int .i64 0, .int .i64 0, .int .i64 0] from by rw [hW4]; exact Blk.new _ _ _)
            clear hb hb4
            go_wp2_with fail
            rw [← hW4]
            clear hW4
            refine (areaAnswers_any _).mono ?_
            rintro e wz ⟨rfl, hb⟩
            have BZ := Lib.hid (B4.out.trans (hb.mono B4.out.size))
            have KA := Lib.hid (K34.out.below hb K34.out.lt)
            have KB := Lib.hid (K4.out.below hb K4.out.lt)
            clear hb
            go_wp2
            go_ret
            exact ⟨rfl, BZ.out⟩
        · have HFA := Lib.hid hfa
          have HFO := Lib.hid hfo
          have hia := soundA_in hsa
          have hib := soundA_in hsb
          obtain ⟨afr, apg, aw, akd, afl, aofs⟩ := a
          obtain ⟨bfr, bpg, bw, bkd, bfl, bofs⟩ := b
          obtain ⟨m1, m2, m3, m4⟩ := hsm
          simp only at m1 m2 m3 m4
          subst m1 m2 m3
          obtain ⟨x1, x2, x3, x4, x5, x6⟩ := hia
          obtain ⟨y1, y2, y3, y4, y5, y6⟩ := hib
          simp only at x1 x2 x3 x4 x5 x6 y1 y2 y3 y4 y5 y6
          clear hfa hfo hin hsa hsb hha hhb
          have f1 : (bkd == bkd) = true := by simp
          have f2 : (bfl == bfl) = true := by simp
          have f3 : (bw == bw) = true := by simp
          by_cases hk1 : bkd = 1
          · have f4 : (bkd == 1) = true := by simp [hk1]
            clear m4
            have HK1 := Lib.hid hk1
            clear hk1
            rcases hor with ⟨d1, d2⟩ | ⟨d1, d2, d3, d4⟩
            all_goals
              have CF := Lib.hid (find_some_any w2 _ l (r : Int) _ _ _ _ _ _ X2.out LI.out ⟨by omega, by omega⟩ HFA.out)
              go_wp2_with fail
              refine CF.out.mono ?_
              rintro e w3 ⟨rfl, hb⟩
              obtain ⟨W3, hW3⟩ : ∃ W3, W3 = w3.alloc (.cells #[.int .i64 afr, .int .i64 apg, .bool bw, .int .i64 bkd, .int .i64 bfl, .int .i64 aofs] 23) := ⟨_, rfl⟩
              have hb3 : Below w2.heap.size w2 W3 := by rw [hW3]; exact hb.alloc hb.size _
              have B3 := Lib.hid (B2.out.trans (hb3.mono B2.out.size))
              have M3 := Lib.hid (M2.out.fresh hb3)
              have K3 := Lib.hid (show Blk W3 w3.heap.size 23 #[.int .i64 afr, .int .i64 apg, .bool bw, .int .i64 bkd, .int .i64 bfl, .int .i64 aofs] from by rw [hW3]; exact Blk.new _ _ _)
              have CG := Lib.hid (find_some_any W3 _ (outA l f p) (r : Int) _ _ _ _ _ _ M3.out LO.out ⟨by omega, by omega⟩ HFO.out)
              clear hb hb3
              go_wp2_with fail
              rw [← hW3]
              clear hW3
              refine CG.out.mono ?_
              rintro e w4 ⟨rfl, hb⟩
              obtain ⟨W4, hW4⟩ : ∃ W4, W4 = w4.alloc (.cells #[.int .i64 bfr, .int .i64 bpg, .bool bw, .int .i64 bkd, .int .i64 bfl, .int .i64 bofs] 23) := ⟨_, rfl⟩
              have hb4 : Below W3.heap.size W3 W4 := by rw [hW4]; exact hb.alloc hb.size _
              have B4 := Lib.hid (B3.out.trans (hb4.mono B3.out.size))
              have K34 := Lib.hid (K3.out.below hb4 K3.out.lt)
              have K4 := Lib.hid (show Blk W4 w4.heap.size 23 #[.int .i64 bfr, .int .i64 bpg, .bool bw, .int .i64 bkd, .int .i64 bfl, .int .i64 bofs] from by rw [hW4]; exact Blk.new _ _ _)
              clear hb hb4
              go_wp2_with fail
              rw [← hW4]
              clear hW4
              refine (areaAnswers_any _).mono ?_
              rintro e wz ⟨rfl, hb⟩
              have BZ := Lib.hid (B4.out.trans (hb.mono B4.out.size))
              have KA := Lib.hid (K34.out.below hb K34.out.lt)
              have KB := Lib.hid (K4.out.below hb K4.out.lt)
              clear hb
              have ka0 := KA.out.cell 0
              have kb0 := KB.out.cell 0
              have ka1 := KA.out.cell 1
              have kb1 := KB.out.cell 1
              have ka2 := KA.out.cell 2
              have kb2 := KB.out.cell 2
              have ka3 := KA.out.cell 3
              have kb3 := KB.out.cell 3
              have ka4 := KA.out.cell 4
              have kb4 := KB.out.cell 4
              have ka5 := KA.out.cell 5
              have kb5 := KB.out.cell 5
              go_wp2
              go_ret
              exact ⟨rfl, BZ.out⟩
          · have f4 : (bkd == 1) = false := by simp [hk1]
            have hm4 : aofs + (r : Int) - afr = bofs + (r : Int) - bfr := by
              rcases m4 with h | h
              · exact absurd h hk1
              · exact h
            have f5 : (aofs + (r : Int) - afr == bofs + (r : Int) - bfr) = true := by rw [hm4]; simp
            clear m4 hm4
            rcases hor with ⟨d1, d2⟩ | ⟨d1, d2, d3, d4⟩
            all_goals
              have CF := Lib.hid (find_some_any w2 _ l (r : Int) _ _ _ _ _ _ X2.out LI.out ⟨by omega, by omega⟩ HFA.out)
              go_wp2_with fail
              refine CF.out.mono ?_
              rintro e w3 ⟨rfl, hb⟩
              obtain ⟨W3, hW3⟩ : ∃ W3, W3 = w3.alloc (.cells #[.int .i64 afr, .int .i64 apg, .bool bw, .int .i64 bkd, .int .i64 bfl, .int .i64 aofs] 23) := ⟨_, rfl⟩
              have hb3 : Below w2.heap.size w2 W3 := by rw [hW3]; exact hb.alloc hb.size _
              have B3 := Lib.hid (B2.out.trans (hb3.mono B2.out.size))
              have M3 := Lib.hid (M2.out.fresh hb3)
              have K3 := Lib.hid (show Blk W3 w3.heap.size 23 #[.int .i64 afr, .int .i64 apg, .bool bw, .int .i64 bkd, .int .i64 bfl, .int .i64 aofs] from by rw [hW3]; exact Blk.new _ _ _)
              have CG := Lib.hid (find_some_any W3 _ (outA l f p) (r : Int) _ _ _ _ _ _ M3.out LO.out ⟨by omega, by omega⟩ HFO.out)
              clear hb hb3
              go_wp2_with fail
              rw [← hW3]
              clear hW3
              refine CG.out.mono ?_
              rintro e w4 ⟨rfl, hb⟩
              obtain ⟨W4, hW4⟩ : ∃ W4, W4 = w4.alloc (.cells #[.int .i64 bfr, .int .i64 bpg, .bool bw, .int .i64 bkd, .int .i64 bfl, .int .i64 bofs] 23) := ⟨_, rfl⟩
              have hb4 : Below W3.heap.size W3 W4 := by rw [hW4]; exact hb.alloc hb.size _
              have B4 := Lib.hid (B3.out.trans (hb4.mono B3.out.size))
              have K34 := Lib.hid (K3.out.below hb4 K3.out.lt)
              have K4 := Lib.hid (show Blk W4 w4.heap.size 23 #[.int .i64 bfr, .int .i64 bpg, .bool bw, .int .i64 bkd, .int .i64 bfl, .int .i64 bofs] from by rw [hW4]; exact Blk.new _ _ _)
              clear hb hb4
              go_wp2_with fail
              rw [← hW4]
              clear hW4
              refine (areaAnswers_any _).mono ?_
              rintro e wz ⟨rfl, hb⟩
              have BZ := Lib.hid (B4.out.trans (hb.mono B4.out.size))
              have KA := Lib.hid (K34.out.below hb K34.out.lt)
              have KB := Lib.hid (K4.out.below hb K4.out.lt)
              clear hb
              have ka0 := KA.out.cell 0
              have kb0 := KB.out.cell 0
              have ka1 := KA.out.cell 1
              have kb1 := KB.out.cell 1
              have ka2 := KA.out.cell 2
              have kb2 := KB.out.cell 2
              have ka3 := KA.out.cell 3
              have kb3 := KB.out.cell 3
              have ka4 := KA.out.cell 4
              have kb4 := KB.out.cell 4
              have ka5 := KA.out.cell 5
              have kb5 := KB.out.cell 5
              go_wp2
              go_ret
              exact ⟨rfl, BZ.out⟩
    · have e1 : (cutE l f p != 0) = true := by simp [hE]
      obtain ⟨E, hEE⟩ : ∃ E, E = cutE l f p := ⟨_, rfl⟩
      rw [← hEE] at CA e1
      clear hE hEE
      go_wp2_with fail
      refine CA.out.mono ?_
      rintro e w2 ⟨v9, rfl, -, hb⟩
      have B2 := Lib.hid (B1.out.trans (hb.mono B1.out.size))
      clear hb
      go_wp2_with fail
      refine (areaAnswers_any _).mono ?_
      rintro e wz ⟨rfl, hb⟩
      have BZ := Lib.hid (B2.out.trans (hb.mono B2.out.size))
      clear hb
      go_wp2
      go_ret
      exact ⟨rfl, BZ.out⟩
  · rw [decide_eq_false hli] at CL
    clear hli
    go_enter Try.func6, Try.ntmps6
    go_wp2_with fail
    refine CL.out.mono ?_
    rintro e w1 ⟨rfl, hb⟩
    have B1 := Lib.hid hb
    clear hb
    go_wp2_with fail
    refine (areaAnswers_any _).mono ?_
    rintro e wz ⟨rfl, hb⟩
    have BZ := Lib.hid (B1.out.trans (hb.mono B1.out.size))
    clear hb
    go_wp2
    go_ret
    exact ⟨rfl, BZ.out⟩
end Go.Proofs.Ytpkgmmfnlifocaa
