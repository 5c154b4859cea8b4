/-
  AreaAdds answers true.
  Conditions: the list is read in memory; the area's numbers are an int's.
-/
import Derived.Test.YtpkgmmfnlifocaaArS
import Derived.Test.YtpkgmmfnlifocaaArN
namespace Go.Proofs.Ytpkgmmfnlifocaa
open Go.RowKit
set_option linter.unusedVariables false
set_option maxRecDepth 20000
set_option maxHeartbeats 3200000

theorem areaAdds_edge (A : Option Addr) (l c : Nat) (a : Ar) (w : World) (h : 40 < l) :
    Calls Try.prog 4 #[.slice A l c, .agg #[.int .i64 a.fr, .int .i64 a.pg, .bool a.w, .int .i64 a.kd, .int .i64 a.fl, .int .i64 a.ofs]] w fun e w' => e = .returned (.bool true) ∧ Below w.heap.size w w' := by
  have t1 : decide ((40 : Int) < (l : Int)) = true := decide_eq_true (by omega)
  obtain ⟨fr, pg, w0, kd, fl, ofs⟩ := a
  have HB := Lib.hid (belAr (Below.refl w.heap.size w) (.cells #[Value.int .i64 fr, .int .i64 pg, .bool w0, .int .i64 kd, .int .i64 fl, .int .i64 ofs] 23))
  clear h
  go_enter Try.func4, Try.ntmps4
  go_wp2_with fail
  refine (areaAnswers_any _).mono ?_
  rintro e w1 ⟨rfl, hb⟩
  have HB2 := Lib.hid (HB.out.trans (hb.mono HB.out.size))
  clear hb
  go_wp2
  go_ret
  exact ⟨rfl, HB2.out⟩
theorem areaAdds_any (v0 : Value) (l : List Ar) (a : Ar) (w : World) (h : Ars w w.heap.size v0 l) (wa : WAr a) (hl : l.length ≤ 40) :
    Calls Try.prog 4 #[v0, .agg #[.int .i64 a.fr, .int .i64 a.pg, .bool a.w, .int .i64 a.kd, .int .i64 a.fl, .int .i64 a.ofs]] w fun e w' => e = .returned (.bool true) ∧ Below w.heap.size w w' := by
  have HX := Lib.hid h
  have WA := Lib.hid wa
  obtain ⟨A, n, c, rfl, hn, hnc, hc, -, -⟩ := h
  have HN := Lib.hid hn
  have hn1 : n ≤ 40 := by omega
  unfold maxLen at hc
  obtain ⟨fr, pg, w0, kd, fl, ofs⟩ := a
  have t1 : decide ((40 : Int) < (n : Int)) = false := decide_eq_false (by omega)
  obtain ⟨W1, hW1⟩ : ∃ W1, W1 = w.alloc (.cells #[Value.int .i64 fr, .int .i64 pg, .bool w0, .int .i64 kd, .int .i64 fl, .int .i64 ofs] 23) := ⟨_, rfl⟩
  have KB := Lib.hid (Blk.new w 23 #[Value.int .i64 fr, .int .i64 pg, .bool w0, .int .i64 kd, .int .i64 fl, .int .i64 ofs])
  rw [← hW1] at KB
  have HB := Lib.hid (show Below w.heap.size w W1 from by rw [hW1]; exact belAr (Below.refl _ _) _)
  obtain ⟨g3, hg3⟩ : ∃ g, g = w.heap.size := ⟨_, rfl⟩
  rw [← hg3] at KB
  have HX1 := Lib.hid (HX.out.fresh HB.out)
  have CL := Lib.hid (refList_any _ l W1 HX1.out)
  clear hn hl wa
  by_cases hli : listA l
  · rw [decide_eq_true hli] at CL
    have LI := Lib.hid hli
    have LIN := Lib.hid (fun x hx => soundA_in (hli.1 x hx))
    clear hli
    go_enter Try.func4, Try.ntmps4
    go_wp2_with fail
    rw [← hW1, ← hg3]
    clear hW1 hg3
    refine CL.out.mono ?_
    rintro e w1 ⟨rfl, hb⟩
    have B1 := Lib.hid (HB.out.trans (hb.mono HB.out.size))
    have X1 := Lib.hid (HX1.out.fresh hb)
    have K1 := Lib.hid (KB.out.below hb KB.out.lt)
    clear hb
    obtain ⟨iA, hiA, hia0, hia1, hia2⟩ := info_parts Try.infoAreaT
    have HIA := Lib.hid hiA
    have HA0 := Lib.hid hia0
    have HA1 := Lib.hid hia1
    have HA2 := Lib.hid hia2
    have OWN0 := Lib.hid (show (w1.alloc (.cells #[] 23)).ownsRow w1.heap.size 23 6 (.slice (some ⟨w1.heap.size, 0, none⟩) 0 0) 0 [] from World.ownsRow_lit w1 #[] 0 (Nat.le_refl _) (by simp [maxLen]) (by simp))
    have RD0 := Lib.hid (show Rd (w1.alloc (.cells #[] 23)) 6 (.slice A n c) n (flatA l) from (X1.out.fresh (belAr (Below.refl _ _) (.cells #[] 23))).rd)
    have HQ1 := Lib.hid (show 0 + n ≤ maxLen from by unfold maxLen; omega)
    have HQ2 := Lib.hid (show (0 + n) * 48 ≤ 140737488355328 from by omega)
    have HQ3 := Lib.hid (show w1.heap.size ≤ (w1.alloc (.cells #[] 23)).heap.size from by simp)
    clear hiA hia0 hia1 hia2
    go_wp2_with (refine wpList_app rfl (.tmp 20) (.tmp 21) 26 rfl w1.heap.size 23 iA (.agg (arL ar0).toArray) 6 48 Try.underlying26 HIA.out HA0.out HA1.out HA2.out rfl (by decide) _ _ _ rfl OWN0.out _ _ _ rfl RD0.out HQ1.out HQ2.out HQ3.out ?_; intro v5 w2 ho5 hg5; have O5 := Lib.hid ho5; have G5 := Lib.hid hg5; clear ho5 hg5; have B12 := Lib.hid (show Below w1.heap.size w1 w2 from (belAr (Below.refl w1.heap.size w1) (.cells #[] 23)).grown G5.out HQ3.out (fun k hk => (OWN0.out.lt k hk).1)); have K2 := Lib.hid (K1.out.below B12.out K1.out.lt); have k0 := K2.out.cell 0; have k1 := K2.out.cell 1; have k2 := K2.out.cell 2; have k3 := K2.out.cell 3; have k4 := K2.out.cell 4; have k5 := K2.out.cell 5)
    have X2 := Lib.hid (X1.out.fresh B12.out)
    have B2 := Lib.hid (B1.out.trans (B12.out.mono B1.out.size))
    have I2 := Lib.hid (show Ars w2 w2.heap.size v5 l from by
      have h := O5.out
      rw [Nat.zero_add, List.nil_append] at h
      exact Gs.of_own h HN.out)
    have CA := Lib.hid (area_add w2 _ l ⟨fr, pg, w0, kd, fl, ofs⟩ WA.out X2.out LI.out (by rw [HN.out]; omega))
    clear OWN0 RD0 O5 G5
    by_cases hs : soundA ⟨fr, pg, w0, kd, fl, ofs⟩
    · have HS := Lib.hid hs
      have hin := soundA_in hs
      obtain ⟨i1, i2, i3, i4, i5, i6⟩ := hin
      simp only at i1 i2 i3 i4 i5 i6
      have CC := Lib.hid (fun (W : World) (hW : Ars W W.heap.size (.slice A n c) l) => refCut_any _ l fr pg W hW LIN.out (by rw [HN.out]; omega) ⟨i1, i3⟩ ⟨i2, i4⟩)
      clear i1 i2 i3 i4 i5 i6
      by_cases hm : inA l fr pg = []
      · by_cases hb : 16 ≤ n
        · have hE : addE l ⟨fr, pg, w0, kd, fl, ofs⟩ = 4 := by unfold addE; rw [if_pos hs, if_neg (fun h => h hm), if_pos (by rw [HN.out]; exact hb)]
          have hL : addL l ⟨fr, pg, w0, kd, fl, ofs⟩ = [] := by unfold addL; rw [hE]; exact if_neg (by decide)
          rw [hE, hL] at CA
          have b1 : decide ((16 : Int) ≤ (n : Int)) = true := decide_eq_true (by omega)
          have HMM := Lib.hid hm
          clear hs hE hL hm
          go_wp2_with fail
          refine CA.out.mono ?_
          rintro e w3 ⟨v6, rfl, hm6, hb3⟩
          have B3 := Lib.hid (B2.out.trans (hb3.mono B2.out.size))
          have X3 := Lib.hid (X2.out.fresh hb3)
          have I3 := Lib.hid (I2.out.fresh hb3)
          have K3 := Lib.hid (K2.out.below hb3 K2.out.lt)
          have M3 := Lib.hid hm6
          obtain ⟨A6, n6, c6, rfl, hn6, -⟩ := hm6
          have HN6 := Lib.hid hn6
          clear k0 k1 k2 k3 k4 k5 hb3 hn6
          have k0 := K3.out.cell 0
          have k1 := K3.out.cell 1
          have k2 := K3.out.cell 2
          have k3 := K3.out.cell 3
          have k4 := K3.out.cell 4
          have k5 := K3.out.cell 5
          have CS := Lib.hid (refSound_any ⟨fr, pg, w0, kd, fl, ofs⟩ w3)
          rw [decide_eq_true HS.out] at CS
          go_wp2_with fail
          refine CS.out.mono ?_
          rintro e w4 ⟨rfl, hb4⟩
          have B4 := Lib.hid (B3.out.trans (hb4.mono B3.out.size))
          have X4 := Lib.hid (X3.out.fresh hb4)
          have I4 := Lib.hid (I3.out.fresh hb4)
          have M4 := Lib.hid (M3.out.fresh hb4)
          have K4 := Lib.hid (K3.out.below hb4 K3.out.lt)
          clear k0 k1 k2 k3 k4 k5 hb4
          have k0 := K4.out.cell 0
          have k1 := K4.out.cell 1
          have CC4 := Lib.hid (CC.out w4 X4.out)
          go_wp2_with fail
          refine CC4.out.mono ?_
          rintro e w5 ⟨v9, va, rfl, hT⟩
          obtain ⟨A9, c9, rfl, -⟩ := hT.r1.len
          obtain ⟨Aa, ca, rfl, -⟩ := hT.r2.len
          have hb5 := hT.bel
          have B5 := Lib.hid (B4.out.trans (hb5.mono B4.out.size))
          have X5 := Lib.hid (X4.out.fresh hb5)
          have I5 := Lib.hid (I4.out.fresh hb5)
          have M5 := Lib.hid (M4.out.fresh hb5)
          have K5 := Lib.hid (K4.out.below hb5 K4.out.lt)
          obtain ⟨ni, hni⟩ : ∃ ni, ni = (inA l fr pg).length := ⟨_, rfl⟩
          obtain ⟨no, hno⟩ : ∃ no, no = (outA l fr pg).length := ⟨_, rfl⟩
          rw [← hni, ← hno]
          have u1 : decide ((0 : Int) < (ni : Int)) = false := decide_eq_false (by rw [hni, HMM.out]; decide)
          have u2 : ¬ 0 < ni := by rw [hni, HMM.out]; decide
          clear k0 k1 hb5 hT hni hno
          have CQ := Lib.hid (refAreas_any _ _ l l _ _ w5 X5.out I5.out)
          rw [decide_eq_true rfl] at CQ
          go_wp2_with fail
          refine CQ.out.mono ?_
          rintro e w7 ⟨rfl, hd⟩
          have hb7 : Below w5.heap.size w5 w7 := drew_below hd
          have B7 := Lib.hid (B5.out.trans (hb7.mono B5.out.size))
          have X7 := Lib.hid (X5.out.fresh hb7)
          have M7 := Lib.hid (M5.out.fresh hb7)
          have K7 := Lib.hid (K5.out.below hb7 K5.out.lt)
          clear hd hb7
          go_wp2_with fail
          refine (areaAnswers_any _).mono ?_
          rintro e w8 ⟨rfl, hb8⟩
          have B8 := Lib.hid (B7.out.trans (hb8.mono B7.out.size))
          have X8 := Lib.hid (X7.out.fresh hb8)
          have M8 := Lib.hid (M7.out.fresh hb8)
          have K8 := Lib.hid (K7.out.below hb8 K7.out.lt)
          clear hb8
          obtain rfl : n6 = 0 := HN6.out.symm
          go_wp2
          go_ret
          exact ⟨rfl, B8.out⟩
        · have hE : addE l ⟨fr, pg, w0, kd, fl, ofs⟩ = 0 := by unfold addE; rw [if_pos hs, if_neg (fun h => h hm), if_neg (by rw [HN.out]; exact hb)]
          have hL : addL l ⟨fr, pg, w0, kd, fl, ofs⟩ = insA l ⟨fr, pg, w0, kd, fl, ofs⟩ := by unfold addL; rw [hE]; exact if_pos rfl
          rw [hE, hL] at CA
          have b1 : decide ((16 : Int) ≤ (n : Int)) = false := decide_eq_false (by omega)
          have HMM := Lib.hid hm
          clear hs hE hL hm
          go_wp2_with fail
          refine CA.out.mono ?_
          rintro e w3 ⟨v6, rfl, hm6, hb3⟩
          have B3 := Lib.hid (B2.out.trans (hb3.mono B2.out.size))
          have X3 := Lib.hid (X2.out.fresh hb3)
          have I3 := Lib.hid (I2.out.fresh hb3)
          have K3 := Lib.hid (K2.out.below hb3 K2.out.lt)
          have M3 := Lib.hid hm6
          obtain ⟨A6, n6, c6, rfl, hn6, -⟩ := hm6
          have HN6 := Lib.hid hn6
          clear k0 k1 k2 k3 k4 k5 hb3 hn6
          have k0 := K3.out.cell 0
          have k1 := K3.out.cell 1
          have k2 := K3.out.cell 2
          have k3 := K3.out.cell 3
          have k4 := K3.out.cell 4
          have k5 := K3.out.cell 5
          have CS := Lib.hid (refSound_any ⟨fr, pg, w0, kd, fl, ofs⟩ w3)
          rw [decide_eq_true HS.out] at CS
          go_wp2_with fail
          refine CS.out.mono ?_
          rintro e w4 ⟨rfl, hb4⟩
          have B4 := Lib.hid (B3.out.trans (hb4.mono B3.out.size))
          have X4 := Lib.hid (X3.out.fresh hb4)
          have I4 := Lib.hid (I3.out.fresh hb4)
          have M4 := Lib.hid (M3.out.fresh hb4)
          have K4 := Lib.hid (K3.out.below hb4 K3.out.lt)
          clear k0 k1 k2 k3 k4 k5 hb4
          have k0 := K4.out.cell 0
          have k1 := K4.out.cell 1
          have CC4 := Lib.hid (CC.out w4 X4.out)
          go_wp2_with fail
          refine CC4.out.mono ?_
          rintro e w5 ⟨v9, va, rfl, hT⟩
          obtain ⟨A9, c9, rfl, -⟩ := hT.r1.len
          obtain ⟨Aa, ca, rfl, -⟩ := hT.r2.len
          have hb5 := hT.bel
          have B5 := Lib.hid (B4.out.trans (hb5.mono B4.out.size))
          have X5 := Lib.hid (X4.out.fresh hb5)
          have I5 := Lib.hid (I4.out.fresh hb5)
          have M5 := Lib.hid (M4.out.fresh hb5)
          have K5 := Lib.hid (K4.out.below hb5 K4.out.lt)
          obtain ⟨ni, hni⟩ : ∃ ni, ni = (inA l fr pg).length := ⟨_, rfl⟩
          obtain ⟨no, hno⟩ : ∃ no, no = (outA l fr pg).length := ⟨_, rfl⟩
          rw [← hni, ← hno]
          have u1 : decide ((0 : Int) < (ni : Int)) = false := decide_eq_false (by rw [hni, HMM.out]; decide)
          have u2 : ¬ 0 < ni := by rw [hni, HMM.out]; decide
          clear k0 k1 hb5 hT hni hno
          have CQ := Lib.hid (refAreas_any _ _ l l _ _ w5 X5.out I5.out)
          rw [decide_eq_true rfl] at CQ
          go_wp2_with fail
          refine CQ.out.mono ?_
          rintro e w7 ⟨rfl, hd⟩
          have hb7 : Below w5.heap.size w5 w7 := drew_below hd
          have B7 := Lib.hid (B5.out.trans (hb7.mono B5.out.size))
          have X7 := Lib.hid (X5.out.fresh hb7)
          have M7 := Lib.hid (M5.out.fresh hb7)
          have K7 := Lib.hid (K5.out.below hb7 K5.out.lt)
          clear hd hb7
          go_wp2_with fail
          refine (areaAnswers_any _).mono ?_
          rintro e w8 ⟨rfl, hb8⟩
          have B8 := Lib.hid (B7.out.trans (hb8.mono B7.out.size))
          have X8 := Lib.hid (X7.out.fresh hb8)
          have M8 := Lib.hid (M7.out.fresh hb8)
          have K8 := Lib.hid (K7.out.below hb8 K7.out.lt)
          clear hb8
          have k0 := K8.out.cell 0
          have k1 := K8.out.cell 1
          have k2 := K8.out.cell 2
          have k3 := K8.out.cell 3
          have k4 := K8.out.cell 4
          have k5 := K8.out.cell 5
          have CI := Lib.hid (refInsert_any _ l ⟨fr, pg, w0, kd, fl, ofs⟩ w8 X8.out (by rw [HN.out]; omega))
          go_wp2_with fail
          refine CI.out.mono ?_
          rintro e wa ⟨vi, rfl, ⟨hi1, -⟩, hba⟩
          have Ba := Lib.hid (B8.out.trans (hba.mono B8.out.size))
          have CF := Lib.hid (refAreas_any _ _ _ _ _ _ wa (M8.out.fresh hba) hi1)
          rw [decide_eq_true rfl] at CF
          clear hi1 hba k0 k1 k2 k3 k4 k5
          go_wp2_with fail
          refine CF.out.mono ?_
          rintro e wb ⟨rfl, hd⟩
          have Bb := Lib.hid (Ba.out.trans ((drew_below hd).mono Ba.out.size))
          clear hd
          go_wp2
          go_ret
          exact ⟨rfl, Bb.out⟩
      · by_cases hb : 16 ≤ n
        · have hE : addE l ⟨fr, pg, w0, kd, fl, ofs⟩ = 3 := by unfold addE; rw [if_pos hs, if_pos hm]
          have hL : addL l ⟨fr, pg, w0, kd, fl, ofs⟩ = [] := by unfold addL; rw [hE]; exact if_neg (by decide)
          rw [hE, hL] at CA
          have b1 : decide ((16 : Int) ≤ (n : Int)) = true := decide_eq_true (by omega)
          have HMM := Lib.hid hm
          clear hs hE hL hm
          go_wp2_with fail
          refine CA.out.mono ?_
          rintro e w3 ⟨v6, rfl, hm6, hb3⟩
          have B3 := Lib.hid (B2.out.trans (hb3.mono B2.out.size))
          have X3 := Lib.hid (X2.out.fresh hb3)
          have I3 := Lib.hid (I2.out.fresh hb3)
          have K3 := Lib.hid (K2.out.below hb3 K2.out.lt)
          have M3 := Lib.hid hm6
          obtain ⟨A6, n6, c6, rfl, hn6, -⟩ := hm6
          have HN6 := Lib.hid hn6
          clear k0 k1 k2 k3 k4 k5 hb3 hn6
          have k0 := K3.out.cell 0
          have k1 := K3.out.cell 1
          have k2 := K3.out.cell 2
          have k3 := K3.out.cell 3
          have k4 := K3.out.cell 4
          have k5 := K3.out.cell 5
          have CS := Lib.hid (refSound_any ⟨fr, pg, w0, kd, fl, ofs⟩ w3)
          rw [decide_eq_true HS.out] at CS
          go_wp2_with fail
          refine CS.out.mono ?_
          rintro e w4 ⟨rfl, hb4⟩
          have B4 := Lib.hid (B3.out.trans (hb4.mono B3.out.size))
          have X4 := Lib.hid (X3.out.fresh hb4)
          have I4 := Lib.hid (I3.out.fresh hb4)
          have M4 := Lib.hid (M3.out.fresh hb4)
          have K4 := Lib.hid (K3.out.below hb4 K3.out.lt)
          clear k0 k1 k2 k3 k4 k5 hb4
          have k0 := K4.out.cell 0
          have k1 := K4.out.cell 1
          have CC4 := Lib.hid (CC.out w4 X4.out)
          go_wp2_with fail
          refine CC4.out.mono ?_
          rintro e w5 ⟨v9, va, rfl, hT⟩
          obtain ⟨A9, c9, rfl, -⟩ := hT.r1.len
          obtain ⟨Aa, ca, rfl, -⟩ := hT.r2.len
          have hb5 := hT.bel
          have B5 := Lib.hid (B4.out.trans (hb5.mono B4.out.size))
          have X5 := Lib.hid (X4.out.fresh hb5)
          have I5 := Lib.hid (I4.out.fresh hb5)
          have M5 := Lib.hid (M4.out.fresh hb5)
          have K5 := Lib.hid (K4.out.below hb5 K4.out.lt)
          obtain ⟨ni, hni⟩ : ∃ ni, ni = (inA l fr pg).length := ⟨_, rfl⟩
          obtain ⟨no, hno⟩ : ∃ no, no = (outA l fr pg).length := ⟨_, rfl⟩
          rw [← hni, ← hno]
          have u1 : decide ((0 : Int) < (ni : Int)) = true := decide_eq_true (by have := List.length_pos_iff.2 HMM.out; omega)
          have u2 : 0 < ni := by have := List.length_pos_iff.2 HMM.out; omega
          clear k0 k1 hb5 hT hni hno
          have CQ := Lib.hid (refAreas_any _ _ l l _ _ w5 X5.out I5.out)
          rw [decide_eq_true rfl] at CQ
          go_wp2_with fail
          refine CQ.out.mono ?_
          rintro e w7 ⟨rfl, hd⟩
          have hb7 : Below w5.heap.size w5 w7 := drew_below hd
          have B7 := Lib.hid (B5.out.trans (hb7.mono B5.out.size))
          have X7 := Lib.hid (X5.out.fresh hb7)
          have M7 := Lib.hid (M5.out.fresh hb7)
          have K7 := Lib.hid (K5.out.below hb7 K5.out.lt)
          clear hd hb7
          go_wp2_with fail
          refine (areaAnswers_any _).mono ?_
          rintro e w8 ⟨rfl, hb8⟩
          have B8 := Lib.hid (B7.out.trans (hb8.mono B7.out.size))
          have X8 := Lib.hid (X7.out.fresh hb8)
          have M8 := Lib.hid (M7.out.fresh hb8)
          have K8 := Lib.hid (K7.out.below hb8 K7.out.lt)
          clear hb8
          obtain rfl : n6 = 0 := HN6.out.symm
          go_wp2
          go_ret
          exact ⟨rfl, B8.out⟩
        · have hE : addE l ⟨fr, pg, w0, kd, fl, ofs⟩ = 3 := by unfold addE; rw [if_pos hs, if_pos hm]
          have hL : addL l ⟨fr, pg, w0, kd, fl, ofs⟩ = [] := by unfold addL; rw [hE]; exact if_neg (by decide)
          rw [hE, hL] at CA
          have b1 : decide ((16 : Int) ≤ (n : Int)) = false := decide_eq_false (by omega)
          have HMM := Lib.hid hm
          clear hs hE hL hm
          go_wp2_with fail
          refine CA.out.mono ?_
          rintro e w3 ⟨v6, rfl, hm6, hb3⟩
          have B3 := Lib.hid (B2.out.trans (hb3.mono B2.out.size))
          have X3 := Lib.hid (X2.out.fresh hb3)
          have I3 := Lib.hid (I2.out.fresh hb3)
          have K3 := Lib.hid (K2.out.below hb3 K2.out.lt)
          have M3 := Lib.hid hm6
          obtain ⟨A6, n6, c6, rfl, hn6, -⟩ := hm6
          have HN6 := Lib.hid hn6
          clear k0 k1 k2 k3 k4 k5 hb3 hn6
          have k0 := K3.out.cell 0
          have k1 := K3.out.cell 1
          have k2 := K3.out.cell 2
          have k3 := K3.out.cell 3
          have k4 := K3.out.cell 4
          have k5 := K3.out.cell 5
          have CS := Lib.hid (refSound_any ⟨fr, pg, w0, kd, fl, ofs⟩ w3)
          rw [decide_eq_true HS.out] at CS
          go_wp2_with fail
          refine CS.out.mono ?_
          rintro e w4 ⟨rfl, hb4⟩
          have B4 := Lib.hid (B3.out.trans (hb4.mono B3.out.size))
          have X4 := Lib.hid (X3.out.fresh hb4)
          have I4 := Lib.hid (I3.out.fresh hb4)
          have M4 := Lib.hid (M3.out.fresh hb4)
          have K4 := Lib.hid (K3.out.below hb4 K3.out.lt)
          clear k0 k1 k2 k3 k4 k5 hb4
          have k0 := K4.out.cell 0
          have k1 := K4.out.cell 1
          have CC4 := Lib.hid (CC.out w4 X4.out)
          go_wp2_with fail
          refine CC4.out.mono ?_
          rintro e w5 ⟨v9, va, rfl, hT⟩
          obtain ⟨A9, c9, rfl, -⟩ := hT.r1.len
          obtain ⟨Aa, ca, rfl, -⟩ := hT.r2.len
          have hb5 := hT.bel
          have B5 := Lib.hid (B4.out.trans (hb5.mono B4.out.size))
          have X5 := Lib.hid (X4.out.fresh hb5)
          have I5 := Lib.hid (I4.out.fresh hb5)
          have M5 := Lib.hid (M4.out.fresh hb5)
          have K5 := Lib.hid (K4.out.below hb5 K4.out.lt)
          obtain ⟨ni, hni⟩ : ∃ ni, ni = (inA l fr pg).length := ⟨_, rfl⟩
          obtain ⟨no, hno⟩ : ∃ no, no = (outA l fr pg).length := ⟨_, rfl⟩
          rw [← hni, ← hno]
          have u1 : decide ((0 : Int) < (ni : Int)) = true := decide_eq_true (by have := List.length_pos_iff.2 HMM.out; omega)
          have u2 : 0 < ni := by have := List.length_pos_iff.2 HMM.out; omega
          clear k0 k1 hb5 hT hni hno
          have CQ := Lib.hid (refAreas_any _ _ l l _ _ w5 X5.out I5.out)
          rw [decide_eq_true rfl] at CQ
          go_wp2_with fail
          refine CQ.out.mono ?_
          rintro e w7 ⟨rfl, hd⟩
          have hb7 : Below w5.heap.size w5 w7 := drew_below hd
          have B7 := Lib.hid (B5.out.trans (hb7.mono B5.out.size))
          have X7 := Lib.hid (X5.out.fresh hb7)
          have M7 := Lib.hid (M5.out.fresh hb7)
          have K7 := Lib.hid (K5.out.below hb7 K5.out.lt)
          clear hd hb7
          go_wp2_with fail
          refine (areaAnswers_any _).mono ?_
          rintro e w8 ⟨rfl, hb8⟩
          have B8 := Lib.hid (B7.out.trans (hb8.mono B7.out.size))
          have X8 := Lib.hid (X7.out.fresh hb8)
          have M8 := Lib.hid (M7.out.fresh hb8)
          have K8 := Lib.hid (K7.out.below hb8 K7.out.lt)
          clear hb8
          obtain rfl : n6 = 0 := HN6.out.symm
          go_wp2
          go_ret
          exact ⟨rfl, B8.out⟩
    · have HS := Lib.hid hs
      by_cases hb : 16 ≤ n
      · have hE : addE l ⟨fr, pg, w0, kd, fl, ofs⟩ = 1 := by unfold addE; rw [if_neg hs]
        have hL : addL l ⟨fr, pg, w0, kd, fl, ofs⟩ = [] := by unfold addL; rw [hE]; exact if_neg (by decide)
        rw [hE, hL] at CA
        have b1 : decide ((16 : Int) ≤ (n : Int)) = true := decide_eq_true (by omega)
        clear hs hE hL
        go_wp2_with fail
        refine CA.out.mono ?_
        rintro e w3 ⟨v6, rfl, hm6, hb3⟩
        have B3 := Lib.hid (B2.out.trans (hb3.mono B2.out.size))
        have X3 := Lib.hid (X2.out.fresh hb3)
        have I3 := Lib.hid (I2.out.fresh hb3)
        have K3 := Lib.hid (K2.out.below hb3 K2.out.lt)
        have M3 := Lib.hid hm6
        obtain ⟨A6, n6, c6, rfl, hn6, -⟩ := hm6
        have HN6 := Lib.hid hn6
        clear k0 k1 k2 k3 k4 k5 hb3 hn6
        have k0 := K3.out.cell 0
        have k1 := K3.out.cell 1
        have k2 := K3.out.cell 2
        have k3 := K3.out.cell 3
        have k4 := K3.out.cell 4
        have k5 := K3.out.cell 5
        have CS := Lib.hid (refSound_any ⟨fr, pg, w0, kd, fl, ofs⟩ w3)
        rw [decide_eq_false HS.out] at CS
        go_wp2_with fail
        refine CS.out.mono ?_
        rintro e w4 ⟨rfl, hb4⟩
        have B4 := Lib.hid (B3.out.trans (hb4.mono B3.out.size))
        have X4 := Lib.hid (X3.out.fresh hb4)
        have I4 := Lib.hid (I3.out.fresh hb4)
        have M4 := Lib.hid (M3.out.fresh hb4)
        have K4 := Lib.hid (K3.out.below hb4 K3.out.lt)
        clear k0 k1 k2 k3 k4 k5 hb4
        have k0 := K4.out.cell 0
        have k1 := K4.out.cell 1
        clear k0 k1
        have CQ := Lib.hid (refAreas_any _ _ l l _ _ w4 X4.out I4.out)
        rw [decide_eq_true rfl] at CQ
        go_wp2_with fail
        refine CQ.out.mono ?_
        rintro e w7 ⟨rfl, hd⟩
        have hb7 : Below w4.heap.size w4 w7 := drew_below hd
        have B7 := Lib.hid (B4.out.trans (hb7.mono B4.out.size))
        have X7 := Lib.hid (X4.out.fresh hb7)
        have M7 := Lib.hid (M4.out.fresh hb7)
        have K7 := Lib.hid (K4.out.below hb7 K4.out.lt)
        clear hd hb7
        go_wp2_with fail
        refine (areaAnswers_any _).mono ?_
        rintro e w8 ⟨rfl, hb8⟩
        have B8 := Lib.hid (B7.out.trans (hb8.mono B7.out.size))
        have X8 := Lib.hid (X7.out.fresh hb8)
        have M8 := Lib.hid (M7.out.fresh hb8)
        have K8 := Lib.hid (K7.out.below hb8 K7.out.lt)
        clear hb8
        obtain rfl : n6 = 0 := HN6.out.symm
        go_wp2
        go_ret
        exact ⟨rfl, B8.out⟩
      · have hE : addE l ⟨fr, pg, w0, kd, fl, ofs⟩ = 1 := by unfold addE; rw [if_neg hs]
        have hL : addL l ⟨fr, pg, w0, kd, fl, ofs⟩ = [] := by unfold addL; rw [hE]; exact if_neg (by decide)
        rw [hE, hL] at CA
        have b1 : decide ((16 : Int) ≤ (n : Int)) = false := decide_eq_false (by omega)
        clear hs hE hL
        go_wp2_with fail
        refine CA.out.mono ?_
        rintro e w3 ⟨v6, rfl, hm6, hb3⟩
        have B3 := Lib.hid (B2.out.trans (hb3.mono B2.out.size))
        have X3 := Lib.hid (X2.out.fresh hb3)
        have I3 := Lib.hid (I2.out.fresh hb3)
        have K3 := Lib.hid (K2.out.below hb3 K2.out.lt)
        have M3 := Lib.hid hm6
        obtain ⟨A6, n6, c6, rfl, hn6, -⟩ := hm6
        have HN6 := Lib.hid hn6
        clear k0 k1 k2 k3 k4 k5 hb3 hn6
        have k0 := K3.out.cell 0
        have k1 := K3.out.cell 1
        have k2 := K3.out.cell 2
        have k3 := K3.out.cell 3
        have k4 := K3.out.cell 4
        have k5 := K3.out.cell 5
        have CS := Lib.hid (refSound_any ⟨fr, pg, w0, kd, fl, ofs⟩ w3)
        rw [decide_eq_false HS.out] at CS
        go_wp2_with fail
        refine CS.out.mono ?_
        rintro e w4 ⟨rfl, hb4⟩
        have B4 := Lib.hid (B3.out.trans (hb4.mono B3.out.size))
        have X4 := Lib.hid (X3.out.fresh hb4)
        have I4 := Lib.hid (I3.out.fresh hb4)
        have M4 := Lib.hid (M3.out.fresh hb4)
        have K4 := Lib.hid (K3.out.below hb4 K3.out.lt)
        clear k0 k1 k2 k3 k4 k5 hb4
        have k0 := K4.out.cell 0
        have k1 := K4.out.cell 1
        clear k0 k1
        have CQ := Lib.hid (refAreas_any _ _ l l _ _ w4 X4.out I4.out)
        rw [decide_eq_true rfl] at CQ
        go_wp2_with fail
        refine CQ.out.mono ?_
        rintro e w7 ⟨rfl, hd⟩
        have hb7 : Below w4.heap.size w4 w7 := drew_below hd
        have B7 := Lib.hid (B4.out.trans (hb7.mono B4.out.size))
        have X7 := Lib.hid (X4.out.fresh hb7)
        have M7 := Lib.hid (M4.out.fresh hb7)
        have K7 := Lib.hid (K4.out.below hb7 K4.out.lt)
        clear hd hb7
        go_wp2_with fail
        refine (areaAnswers_any _).mono ?_
        rintro e w8 ⟨rfl, hb8⟩
        have B8 := Lib.hid (B7.out.trans (hb8.mono B7.out.size))
        have X8 := Lib.hid (X7.out.fresh hb8)
        have M8 := Lib.hid (M7.out.fresh hb8)
        have K8 := Lib.hid (K7.out.below hb8 K7.out.lt)
        clear hb8
        obtain rfl : n6 = 0 := HN6.out.symm
        go_wp2
        go_ret
        exact ⟨rfl, B8.out⟩
  · rw [decide_eq_false hli] at CL
    clear hli
    go_enter Try.func4, Try.ntmps4
    go_wp2_with fail
    rw [← hW1, ← hg3]
    clear hW1 hg3
    refine CL.out.mono ?_
    rintro e w1 ⟨rfl, hb⟩
    have B1 := Lib.hid (HB.out.trans (hb.mono HB.out.size))
    clear hb
    go_wp2_with fail
    refine (areaAnswers_any _).mono ?_
    rintro e w2 ⟨rfl, hb⟩
    have B2 := Lib.hid (B1.out.trans (hb.mono B1.out.size))
    clear hb
    go_wp2
    go_ret
    exact ⟨rfl, B2.out⟩
end Go.Proofs.Ytpkgmmfnlifocaa
