/-
  RunsPlays answers true for any numbers, and writes nothing that was there.
  Conditions: the lists are read in memory.
-/
import Derived.Test.YtfnegbcpiejdaaaRunL
import Derived.Test.YtfnegbcpiejdaaaRefRun
import Derived.Deep.LoopGhost
import Derived.Deep.RegionHeld3
import Derived.Laws.MakeOwn
import Derived.OwnWalk
import Derived.BigQuiet
namespace Go.Proofs.Ytfnegbcpiejdaaa
open Go.RowKit
set_option linter.unusedVariables false

set_option maxRecDepth 20000 in
set_option maxHeartbeats 400000 in
theorem runsPlays_edge (A A' : Option Addr) (l c l' c' : Nat) (n o a b : Int) (w : World) (h : 300 < l ∨ 300 < l') :
    Calls Try.prog 7 #[.int .i64 n, .slice A l c, .slice A' l' c', .int .i64 o, .int .i64 a, .int .i64 b] w fun e w' => e = .returned (.bool true) ∧ Below w.heap.size w w' := by
  by_cases h1 : 300 < l
  · have t1 : decide ((300 : Int) < (l : Int)) = true := decide_eq_true (by omega)
    clear h
    go_enter Try.func7, Try.ntmps7
    go_wp2_with fail
    refine (runAnswers_any _).mono ?_
    rintro e w1 ⟨rfl, hb⟩
    go_wp2
    go_ret
    exact ⟨rfl, hb⟩
  · have t1 : decide ((300 : Int) < (l : Int)) = false := decide_eq_false (by omega)
    have t2 : decide ((300 : Int) < (l' : Int)) = true := decide_eq_true (by omega)
    clear h
    go_enter Try.func7, Try.ntmps7
    go_wp2_with fail
    refine (runAnswers_any _).mono ?_
    rintro e w1 ⟨rfl, hb⟩
    go_wp2
    go_ret
    exact ⟨rfl, hb⟩

theorem has_in {l : List Bool} {k : Nat} (h : k < l.length) : (decide (0 ≤ (k : Int) ∧ (k : Int) < (l.length : Int)) && l.getD (k : Int).toNat false) = l.getD k false := by
  rw [decide_eq_true (⟨by omega, by omega⟩ : 0 ≤ (k : Int) ∧ (k : Int) < (l.length : Int))]
  simp

set_option maxRecDepth 20000 in
set_option maxHeartbeats 6400000 in
theorem runsPlays_any (n o a b : Int) (v1 v2 : Value) (fs1 fs2 : List Int) (w : World) (h1 : Its w w.heap.size v1 fs1) (h2 : Its w w.heap.size v2 fs2) (hl1 : fs1.length ≤ 300) (hl2 : fs2.length ≤ 300) :
    Calls Try.prog 7 #[.int .i64 n, v1, v2, .int .i64 o, .int .i64 a, .int .i64 b] w fun e w' => e = .returned (.bool true) ∧ Below w.heap.size w w' := by
  have HV1 := Lib.hid h1
  have HV2 := Lib.hid h2
  obtain ⟨A1, N1, c1, rfl, hN1, _, _, hz1⟩ := h1
  obtain ⟨A2, N2, c2, rfl, hN2, _, _, hz2⟩ := h2
  have HZ1 := Lib.hid hz1
  have HZ2 := Lib.hid hz2
  have HN1 := Lib.hid hN1
  have HN2 := Lib.hid hN2
  have t1 : decide ((300 : Int) < (N1 : Int)) = false := decide_eq_false (by omega)
  have t2 : decide ((300 : Int) < (N2 : Int)) = false := decide_eq_false (by omega)
  have HL300 : N1 ≤ 300 := by omega
  have HL301 : N2 ≤ 300 := by omega
  obtain ⟨M, hM⟩ : ∃ M, M = cutN n := ⟨_, rfl⟩
  have hM1 : M ≤ 1024 := by rw [hM]; exact cutN_le n
  have HM := Lib.hid hM
  have MK := Lib.hid (make_bools M hM1)
  obtain ⟨iI, hiI, hiz0, hiz1, hiz2⟩ := info_parts Try.infoInt8
  have HII := Lib.hid hiI
  have HI0 := Lib.hid hiz0
  have HI1 := Lib.hid hiz1
  have HI2 := Lib.hid hiz2
  clear hl1 hl2 hN1 hN2 hz1 hz2 hM hiI hiz0 hiz1 hiz2
  go_enter Try.func7, Try.ntmps7
  go_wp2_with fail
  refine (runs_new n w).mono ?_
  rintro e w1 ⟨gS, K1, rfl, hm1, hk1, hb1⟩
  rw [← HM.out] at hm1
  have HM1 := Lib.hid hm1
  have HK1 := Lib.hid hk1
  have HB1 := Lib.hid hb1
  clear hm1 hk1 hb1
  go_wp2_with fail
  refine (refCut_any n w1).mono ?_
  rintro e w1' ⟨rfl, rfl⟩
  rw [← HM.out]
  have mk := MK.out w1
  have A2' := Lib.hid (show Below w1.heap.size w1 (w1.alloc (.cells ((List.replicate M false).map Value.bool).toArray 4)) from (Below.refl _ _).alloc (Nat.le_refl _) _)
  obtain ⟨w2, hw2⟩ : ∃ w2, w2 = w1.alloc (.cells ((List.replicate M false).map Value.bool).toArray 4) := ⟨_, rfl⟩
  rw [← hw2] at mk A2'
  obtain ⟨gL, hgL⟩ : ∃ gL, gL = w1.heap.size := ⟨_, rfl⟩
  rw [← hgL] at mk
  have HL2 := Lib.hid (show Own8 w2 gL (List.replicate M false) from by rw [hw2, hgL]; exact Blk.new w1 _ _)
  have HM2 := Lib.hid (HM1.out.fresh A2'.out)
  have HB2 := Lib.hid (HB1.out.trans (A2'.out.mono HB1.out.size))
  have HGL := Lib.hid (show w.heap.size ≤ gL ∧ gL < w2.heap.size ∧ ¬ K1 gL from ⟨by rw [hgL]; exact HB1.out.size, HL2.out.lt, fun h => by have := HM1.out.lt _ h; omega⟩)
  have HV3 := Lib.hid ((HV1.out.below HB2.out).more HB2.out.size)
  have HO3 := Lib.hid (HV1.out.off HK1.out)
  clear hw2 hgL
  go_wp2_with fail
  refine (runs_add gS K1 _ _ fs1 w2 HM2.out HV3.out HO3.out).mono ?_
  rintro e w3 ⟨K3, rfl, hm3, hk3, ht3⟩
  have HM3 := Lib.hid hm3
  have HB3 := Lib.hid (HB2.out.trans (ht3.below HK1.out HB2.out.size))
  have HL3 := Lib.hid (show Own8 w3 gL (List.replicate M false) from ht3.blk HL2.out HGL.out.2.2)
  have HK3 := Lib.hid (show ∀ x, K3 x → w.heap.size ≤ x from fun x hx => by
    rcases hk3 x hx with h | h
    · exact HK1.out x h
    · exact Nat.le_trans HB2.out.size h)
  have HG3 := Lib.hid (show ¬ K3 gL from fun h => by
    rcases hk3 gL h with h | h
    · exact HGL.out.2.2 h
    · have := HGL.out.2.1; omega)
  have HV4 := Lib.hid ((HV2.out.below HB3.out).more HB3.out.size)
  have HO4 := Lib.hid (HV2.out.off HK3.out)
  clear hm3 hk3 ht3
  go_wp2_with fail
  refine (runs_drop gS K3 _ _ fs2 w3 HM3.out HV4.out HO4.out).mono ?_
  rintro e w4 ⟨K4, rfl, hm4, hk4, ht4⟩
  have HM4 := Lib.hid hm4
  have HB4 := Lib.hid (HB3.out.trans (ht4.below HK3.out HB3.out.size))
  have HL4 := Lib.hid (show Own8 w4 gL (List.replicate M false) from ht4.blk HL3.out HG3.out)
  have HG4 := Lib.hid (show ¬ K4 gL from fun h => by
    rcases hk4 gL h with h | h
    · exact HG3.out h
    · have := HL3.out.lt; omega)
  clear hm4 hk4 ht4
  obtain ⟨L0, hL0⟩ : ∃ L0, L0 = List.replicate M false := ⟨_, rfl⟩
  obtain ⟨LL, hLL⟩ : ∃ LL, LL = putB (putB L0 true fs1) false fs2 := ⟨_, rfl⟩
  rw [← hL0] at HL4 HM4
  rw [← hLL] at HM4
  have HL0 := Lib.hid (show L0.length = M by rw [hL0]; simp)
  have HLL := Lib.hid hLL
  have HLN := Lib.hid (show LL.length = M by rw [hLL, putB_length, putB_length]; exact HL0.out)
  clear hL0 hLL
  go_wp2_with fail
  go_loopg [15] N1 (fun gg s15 wx => ∃ i : Nat, i + gg = N1 ∧ s15 = .int .i64 (i : Int) ∧ Own8 wx gL (putB L0 true (fs1.take i)) ∧ RunMem wx gS K4 LL ∧ Below w.heap.size w wx)
  case atStart => exact ⟨0, by omega, rfl, HL4.out, HM4.out, HB4.out⟩
  case round =>
    obtain ⟨i, hig, rfl, hl5, hm5, hb5⟩ := hrel
    have HL5 := Lib.hid hl5
    have HM5 := Lib.hid hm5
    have HB5 := Lib.hid hb5
    clear hl5 hm5 hb5
    by_cases hlt : i < N1
    · have t4 : decide ((i : Int) < (N1 : Int)) = true := decide_eq_true (by omega)
      have t5 : (i : Int) < (N1 : Int) := by omega
      have t6 : (0 : Int) ≤ (i : Int) := by omega
      obtain ⟨b1, o1, rfl, hbl, hc⟩ := HZ1.out (by omega)
      obtain ⟨y, hy⟩ : ∃ y, y = fs1.getD i 0 := ⟨_, rfl⟩
      have hcell : wr.cell? ⟨b1, o1 + i, none⟩ = some (.int .i64 y) := (HB5.out.cell (p := ⟨b1, _, none⟩) hbl).trans (by rw [hy]; exact hc i hlt)
      have PT := Lib.hid (putB_take (l := L0) (b := true) (fs := fs1) (i := i) (by rw [HN1.out]; exact hlt) hy)
      rw [HL0.out] at PT
      clear hc hy
      by_cases k1 : 0 ≤ y
      · have d1 : decide ((0 : Int) ≤ y) = true := decide_eq_true k1
        by_cases k2 : y < (M : Int)
        · have d2 : decide (y < (M : Int)) = true := decide_eq_true k2
          have PT2 := Lib.hid (PT.out.trans (if_pos ⟨k1, k2⟩))
          obtain ⟨z, rfl⟩ := Int.eq_ofNat_of_zero_le k1
          have hfz : wr.frozen? ⟨gL, z, none⟩ = false := HL5.out.frozen z
          have hcz : wr.cell? ⟨gL, z, none⟩ = some (.bool ((putB L0 true (fs1.take i)).getD z false)) := HL5.out.at_ (by rw [putB_length, HL0.out]; omega)
          go_wp2_with fail
          go_roundg (N1 - (i + 1))
          case measure => omega
          case rel =>
            refine ⟨i + 1, by omega, by go_num, ?_, HM5.out.only ((Only.refl _ _).setCell z (.bool true)) HG4.out, HB5.out.setCell (p := ⟨gL, z, none⟩) HGL.out.1 _⟩
            rw [PT2.out]
            simpa using HL5.out.set_ z true
        · have d2 : decide (y < (M : Int)) = false := decide_eq_false k2
          have PT2 := Lib.hid (PT.out.trans (if_neg (fun h => k2 h.2)))
          go_wp2_with fail
          go_roundg (N1 - (i + 1))
          case measure => omega
          case rel => exact ⟨i + 1, by omega, by go_num, by rw [PT2.out]; exact HL5.out, HM5.out, HB5.out⟩
      · have d1 : decide ((0 : Int) ≤ y) = false := decide_eq_false k1
        have PT2 := Lib.hid (PT.out.trans (if_neg (fun h => k1 h.1)))
        go_wp2_with fail
        go_roundg (N1 - (i + 1))
        case measure => omega
        case rel => exact ⟨i + 1, by omega, by go_num, by rw [PT2.out]; exact HL5.out, HM5.out, HB5.out⟩
    · obtain rfl : i = N1 := by omega
      have t4 : decide ((i : Int) < (i : Int)) = false := decide_eq_false (by omega)
      have HL6 := Lib.hid (show Own8 wr gL (putB (putB L0 true fs1) false (fs2.take 0)) from by
        have h := HL5.out
        rw [← HN1.out, List.take_length] at h
        exact h)
      obtain ⟨G, rfl⟩ : ∃ G, G = gk := ⟨_, rfl⟩
      obtain ⟨W0, rfl⟩ : ∃ W0, W0 = wr := ⟨_, rfl⟩
      go_wp2_with fail
      go_loopg [16] N2 (fun gg s16 wx => ∃ i : Nat, i + gg = N2 ∧ s16 = .int .i64 (i : Int) ∧ Own8 wx gL (putB (putB L0 true fs1) false (fs2.take i)) ∧ RunMem wx gS K4 LL ∧ Below w.heap.size w wx)
      case atStart => exact ⟨0, by omega, rfl, HL6.out, HM5.out, HB5.out⟩
      case round =>
        obtain ⟨j, hig2, rfl, hl5, hm5, hb5⟩ := hrel
        have HL7 := Lib.hid hl5
        have HM7 := Lib.hid hm5
        have HB7 := Lib.hid hb5
        clear hl5 hm5 hb5
        by_cases hlt2 : j < N2
        · have t4 : decide ((j : Int) < (N2 : Int)) = true := decide_eq_true (by omega)
          have t5 : (j : Int) < (N2 : Int) := by omega
          have t6 : (0 : Int) ≤ (j : Int) := by omega
          obtain ⟨b1, o1, rfl, hbl, hc⟩ := HZ2.out (by omega)
          obtain ⟨y, hy⟩ : ∃ y, y = fs2.getD j 0 := ⟨_, rfl⟩
          have hcell : wr.cell? ⟨b1, o1 + j, none⟩ = some (.int .i64 y) := (HB7.out.cell (p := ⟨b1, _, none⟩) hbl).trans (by rw [hy]; exact hc j hlt2)
          have PT := Lib.hid (putB_take (l := putB L0 true fs1) (b := false) (fs := fs2) (i := j) (by rw [HN2.out]; exact hlt2) hy)
          rw [putB_length, HL0.out] at PT
          clear hc hy
          by_cases k1 : 0 ≤ y
          · have d1 : decide ((0 : Int) ≤ y) = true := decide_eq_true k1
            by_cases k2 : y < (M : Int)
            · have d2 : decide (y < (M : Int)) = true := decide_eq_true k2
              have PT2 := Lib.hid (PT.out.trans (if_pos ⟨k1, k2⟩))
              obtain ⟨z, rfl⟩ := Int.eq_ofNat_of_zero_le k1
              have hfz : wr.frozen? ⟨gL, z, none⟩ = false := HL7.out.frozen z
              have hcz : wr.cell? ⟨gL, z, none⟩ = some (.bool ((putB (putB L0 true fs1) false (fs2.take j)).getD z false)) := HL7.out.at_ (by rw [putB_length, putB_length, HL0.out]; omega)
              go_wp2_with fail
              go_roundg (N2 - (j + 1))
              case measure => omega
              case rel =>
                refine ⟨j + 1, by omega, by go_num, ?_, HM7.out.only ((Only.refl _ _).setCell z (.bool false)) HG4.out, HB7.out.setCell (p := ⟨gL, z, none⟩) HGL.out.1 _⟩
                rw [PT2.out]
                simpa using HL7.out.set_ z false
            · have d2 : decide (y < (M : Int)) = false := decide_eq_false k2
              have PT2 := Lib.hid (PT.out.trans (if_neg (fun h => k2 h.2)))
              go_wp2_with fail
              go_roundg (N2 - (j + 1))
              case measure => omega
              case rel => exact ⟨j + 1, by omega, by go_num, by rw [PT2.out]; exact HL7.out, HM7.out, HB7.out⟩
          · have d1 : decide ((0 : Int) ≤ y) = false := decide_eq_false k1
            have PT2 := Lib.hid (PT.out.trans (if_neg (fun h => k1 h.1)))
            go_wp2_with fail
            go_roundg (N2 - (j + 1))
            case measure => omega
            case rel => exact ⟨j + 1, by omega, by go_num, by rw [PT2.out]; exact HL7.out, HM7.out, HB7.out⟩
        · obtain rfl : j = N2 := by omega
          have t4 : decide ((j : Int) < (j : Int)) = false := decide_eq_false (by omega)
          have HL8 := Lib.hid (show Own8 wr gL LL from by
            have h := HL7.out
            rw [← HN2.out, List.take_length, ← HLL.out] at h
            exact h)
          clear HL7 HL6 HL5
          obtain ⟨G2, rfl⟩ : ∃ G2, G2 = gk := ⟨_, rfl⟩
          obtain ⟨W2, rfl⟩ : ∃ W2, W2 = wr := ⟨_, rfl⟩
          go_wp2_with fail
          clear HL0 HLL HN1 HN2 HZ1 HZ2 HV1 HV2 HV3 HV4 HO3 HO4 HM1 HM2 HM3 HM4 HB1 HB2 HB3 HB4 HL2 HL3 HL4 HK1 HK3 HGL HG3
          go_loopw [17, 18] (fun v s18 wx => ∃ k : Nat, k ≤ M ∧ s18 = .int .i64 (k : Int) ∧ wx.ownsRow W2.heap.size 3 1 v (badZ LL k).length ((badZ LL k).map (fun z => Value.int .i64 z)) ∧ Below W2.heap.size W2 wx) (fun _ i _ => M - (intOf i).toNat)
          case atStart => exact ⟨0, Nat.zero_le _, rfl, World.ownsRow_nil _ _ _ _, Below.refl _ _⟩
          case round =>
            obtain ⟨k, hk, rfl, hrow, hb9⟩ := hrel
            have HROW := Lib.hid hrow
            have HX9 := Lib.hid hb9
            have HL9 := Lib.hid (HL8.out.below hb9)
            have HM9 := Lib.hid (HM7.out.fresh hb9)
            have HB9 := Lib.hid (HB7.out.trans (hb9.mono HB7.out.size))
            clear hrow hb9
            by_cases hlt : k < M
            · have t1 : (k : Int) < (M : Int) := by omega
              have t2 : (0 : Int) ≤ (k : Int) := by omega
              have t3 : decide ((k : Int) < (M : Int)) = true := decide_eq_true t1
              have hck : wr.cell? ⟨gL, k, none⟩ = some (.bool (LL.getD k false)) := HL9.out.at_ (by rw [HLN.out]; exact hlt)
              have KP := Lib.hid (fun (w' : World) (hw' : Below wr.heap.size wr w') => (⟨(hw'.cell (p := ⟨gL, k, none⟩) HL9.out.lt).trans hck, hw'⟩ : w'.cell? ⟨gL, k, none⟩ = some (.bool (LL.getD k false)) ∧ Below wr.heap.size wr w'))
              have HS := Lib.hid (fun (W : World) (hW : Below wr.heap.size wr W) => ((runs_has gS K4 LL (k : Int) W (HM9.out.fresh hW)).mono (fun e w' h => ⟨by rw [h.1, has_in (by rw [HLN.out]; exact hlt)], hW.trans (h.2.mono hW.size)⟩) : Calls Try.prog 30 #[.pointer (some ⟨gS, 0, none⟩), .int .i64 (k : Int)] W fun e w' => e = .returned (.bool (LL.getD k false)) ∧ Below wr.heap.size wr w'))
              have BS := Lib.hid (badZ_succ LL k)
              have BL := Lib.hid (badZ_le LL k)
              obtain ⟨x, hx⟩ : ∃ x, x = LL.getD k false := ⟨_, rfl⟩
              rw [← hx] at hck KP HS BS
              clear hx
              have HCK := Lib.hid hck
              clear hck
              have BR := Lib.hid (Below.refl wr.heap.size wr)
              cases x with
              | true =>
                go_wp2_with fail
                go_region_held3 (fun w' => w'.cell? ⟨gL, k, none⟩ = some (.bool true) ∧ Below wr.heap.size wr w')
                  (first | assumption | exact KP.out _ BR.out.drew | exact KP.out _ (by assumption))
                  ((go_at_call 30; refine (HS.out _ ?_).mono ?_; (first | assumption | exact (And.right (by assumption))); rintro e w' ⟨rfl, hls⟩))
                have HW1 := Lib.hid (row_below8 HROW.out hls)
                have HX1 := Lib.hid (HX9.out.trans (hls.mono HX9.out.size))
                have HONE := Lib.hid (show ∀ u ∈ [Value.int .i64 (k : Int)], u.oneCell' = true from fun u hu => by rw [List.mem_singleton.1 hu]; rfl)
                have HQ1 := Lib.hid (show (badZ LL k).length + 1 ≤ maxLen from by have := BL.out; unfold maxLen; omega)
                have HQ2 := Lib.hid (show ((badZ LL k).length + 1) * 8 ≤ 140737488355328 from by have := BL.out; omega)
                have HQ3 := Lib.hid (show W2.heap.size ≤ (w'.alloc (.cells #[Value.int .i64 (k : Int)] 3)).heap.size from by have := HX1.out.size; simp; omega)
                have HCK2 := Lib.hid ((HL9.out.below hls).at_ (i := k) (by rw [HLN.out]; exact hlt))
                clear hls
                go_wp2_with (refine wpList_append_own _ rfl _ _ 57 rfl W2.heap.size 3 iI (.int .i64 0) 1 8 Try.underlying57 HII.out HI0.out HI1.out HI2.out rfl (by decide) _ _ _ rfl (HW1.out.alloc _) ⟨w'.heap.size, 0, none⟩ 1 1 [Value.int .i64 (k : Int)] rfl rfl (cell_one_new _ _ _) HONE.out HQ1.out HQ2.out HQ3.out ?_; intro v' w4 hown4 hg4 hnil4; have HOWN4 := Lib.hid hown4; have HG4 := Lib.hid hg4; clear hown4 hg4 hnil4)
                have HB4' := Lib.hid ((HX1.out.alloc HX1.out.size (.cells #[Value.int .i64 (k : Int)] 3)).grown HG4.out HQ3.out (fun j hj => (HW1.out.lt j hj).1))
                go_roundw
                case rel =>
                  refine ⟨k + 1, by omega, by go_num, ?_, HB4'.out⟩
                  have h9 := HOWN4.out
                  rw [show badZ LL (k + 1) = badZ LL k ++ [(k : Int)] from BS.out, List.length_append, List.map_append]
                  exact h9
                case measure => simp [intOf]; omega
              | false =>
                go_wp2_with fail
                go_region_held3 (fun w' => w'.cell? ⟨gL, k, none⟩ = some (.bool false) ∧ Below wr.heap.size wr w')
                  (first | assumption | exact KP.out _ BR.out.drew | exact KP.out _ (by assumption))
                  ((go_at_call 30; refine (HS.out _ ?_).mono ?_; (first | assumption | exact (And.right (by assumption))); rintro e w' ⟨rfl, hls⟩))
                have HW1 := Lib.hid (row_below8 HROW.out hls)
                have HX1 := Lib.hid (HX9.out.trans (hls.mono HX9.out.size))
                have hck2 := (HL9.out.below hls).at_ (i := k) (by rw [HLN.out]; exact hlt)
                clear hls
                go_wp2_with fail
                go_roundw
                case rel =>
                  refine ⟨k + 1, by omega, by go_num, ?_, HX1.out⟩
                  rw [show badZ LL (k + 1) = badZ LL k from by simpa using BS.out]
                  exact HW1.out
                case measure => simp [intOf]; omega
            · obtain rfl : k = M := by omega
              have t3 : decide ((k : Int) < (k : Int)) = false := decide_eq_false (by omega)
              go_wp2_with fail
              have hit := Its.of_own HROW.out
              have HIT := Lib.hid hit
              obtain ⟨AZ, NZ, cz, rfl, hnz, -⟩ := hit
              have HNZ := Lib.hid hnz
              have HBK := Lib.hid (show ((bads LL LL.length).length : Int) = (NZ : Int) from by rw [HLN.out, ← HNZ.out]; unfold badZ; rw [List.length_map])
              clear HROW hnz
              refine (runs_run gS K4 LL o a b wr HM9.out).mono ?_
              rintro e w5 ⟨r, rfl, hr, hb⟩
              have HR := Lib.hid hr
              have HXA := Lib.hid hb
              clear hr hb
              have HL10 := Lib.hid (HL9.out.below HXA.out)
              obtain ⟨ra, ok, hrv⟩ : ∃ ra ok, runV r = .tuple #[.int .i64 ra, .bool ok] := ⟨_, _, rfl⟩
              have HRV := Lib.hid hrv
              rw [hrv]
              clear hrv
              go_wp2_with fail
              refine (refRun_any gL _ _ LL o a b w5 HLN.out hM1 (Nat.le_refl _) (fun j hj => HL10.out.at_ (by rw [HLN.out]; exact hj))).mono ?_
              rintro e w5' ⟨r', rfl, hr', rfl⟩
              obtain rfl := hr'.uniq HR.out
              rw [HRV.out]
              have e1 : (ra == ra) = true := by simp
              have e2 : (ok == ok) = true := by simp
              clear hr'
              go_wp2_with fail
              refine (runAnswers_any _).mono ?_
              rintro e w6 ⟨rfl, hb6⟩
              have HXB := Lib.hid (HXA.out.trans (hb6.mono HXA.out.size))
              clear hb6
              go_wp2_with fail
              refine (runs_all gS K4 LL w6 (HM9.out.fresh HXB.out)).mono ?_
              rintro e w7 ⟨vv, rfl, hits, hb7⟩
              have HXC := Lib.hid (HXB.out.trans (hb7.mono HXB.out.size))
              have HIA := Lib.hid hits
              clear hits hb7
              go_wp2_with fail
              refine (ints_any vv _ _ _ _ _ w7 HIA.out (HIT.out.below HXC.out)).mono ?_
              rintro e w8 ⟨rfl, hd8⟩
              rw [decide_eq_true (show (bads LL LL.length).map (fun (f : Nat) => (f : Int)) = badZ LL _ from by rw [HLN.out]; rfl)]
              have HXD := Lib.hid (HXC.out.trans (drew_below hd8))
              clear hd8
              go_wp2_with fail
              refine (runs_count gS K4 LL w8 (HM9.out.fresh HXD.out)).mono ?_
              rintro e w9 ⟨rfl, hb9⟩
              rw [HBK.out]
              have HXE := Lib.hid (HXD.out.trans (hb9.mono HXD.out.size))
              have e3 : ((NZ : Int) == (NZ : Int)) = true := by simp
              clear hb9
              go_wp2_with fail
              refine (runs_has gS K4 LL (-1) w9 (HM9.out.fresh HXE.out)).mono ?_
              rintro e w10 ⟨rfl, hb10⟩
              rw [show (decide (0 ≤ (-1 : Int) ∧ (-1 : Int) < (LL.length : Int)) && LL.getD (-1 : Int).toNat false) = false from by rw [decide_eq_false (fun h => by omega)]; rfl]
              have HXF := Lib.hid (HXE.out.trans (hb10.mono HXE.out.size))
              clear hb10
              go_wp2_with fail
              refine (runs_has gS K4 LL _ w10 (HM9.out.fresh HXF.out)).mono ?_
              rintro e w11 ⟨rfl, hb11⟩
              rw [decide_eq_false (fun h => by have := HLN.out; omega)]
              have HXG := Lib.hid (HXF.out.trans (hb11.mono HXF.out.size))
              clear hb11
              go_wp2_with fail
              go_ret
              exact ⟨rfl, HB9.out.trans (HXG.out.mono HB9.out.size)⟩
end Go.Proofs.Ytfnegbcpiejdaaa
