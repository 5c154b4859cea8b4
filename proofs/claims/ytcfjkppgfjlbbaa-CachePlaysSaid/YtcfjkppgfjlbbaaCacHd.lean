/-
  The switch of CachePlays: a page is dropped.
  Conditions: none beside those that each line bears.
-/
import Derived.Test.YtcfjkppgfjlbbaaCacF
import Derived.Deep.CutRange
import Derived.Deep.CutBlock
import Derived.StillTailTactics
namespace Go.Proofs.Ytcfjkppgfjlbbaa
open Go.RowKit
set_option linter.unusedVariables false

set_option maxRecDepth 100000 in
set_option maxHeartbeats 6400000 in
theorem sw15_d (a : Act) (w W4 : World) (gC ga n : Nat) (es : CS) (v6 v7 v8 : Value) (af pc pg : Int) (ad : Bool) (z : Int) (bz : Bool)
    (h : SwL a (.pointer (some ⟨gC, 0, none⟩)) v6 v7 v8 (.pointer (some ⟨ga, 0, none⟩)) (.int .i64 z) (.bool bz) (.int .i64 2)) (hS : St w W4 gC es es (fun k => k = ga) v6 v7 v8) (hK : Blk W4 ga 32 #[.int .i64 2, .int .i64 af, .int .i64 pc, .int .i64 pg, .bool ad]) (hn : n = es.length) (hn80 : n ≤ 80) (hbz : bz = busyC es af) (hat : At es ⟨pc, pg⟩ z) (hwc : WCs es) (hwk : WPlc ⟨pc, pg⟩) (hwf : W64c af) :
    Runs Try.prog cSw15 a W4 (SwR a w gC n) := by
  obtain ⟨u, rfl⟩ := h.open_
  have OK := Lib.hid hS.t.ok
  obtain ⟨A6, c6, rfl, hc6⟩ := hS.r6.len
  obtain ⟨A7, c7, rfl, hc7⟩ := hS.r7.len
  obtain ⟨A8, c8, rfl, hc8⟩ := hS.r8.len
  rw [← hn] at hc6 hc7 hc8 hS ⊢
  have S4 := Lib.hid hS
  have K4 := Lib.hid hK
  have HN := Lib.hid hn
  have HBZ := Lib.hid hbz
  have AT := Lib.hid hat
  have WE := Lib.hid hwc
  have WK := Lib.hid hwk
  have WF := Lib.hid hwf
  have KC := Lib.hid (fun (j : Nat) (e : Ce) (h : es[j]? = some e) => S4.out.at_ HN.out h)
  have a0 := K4.out.cell 0
  have a1 := K4.out.cell 1
  have a2 := K4.out.cell 2
  have a3 := K4.out.cell 3
  have a4 := K4.out.cell 4
  clear hS hK hn hbz hat hwc hwk hwf h
  unfold Runs
  conv => arg 2; whnf
  have DR := Lib.hid (S4.out.drop ⟨pc, pg⟩ WK.out)
  rcases AT.out.cases_ OK.out with ⟨rfl, hh⟩ | ⟨i0, e0, rfl, hh, hi0, hk0, hdr, -⟩
  · rw [dropC_no hh, hh] at DR
    clear hh
    go_wp2_with fail
    refine DR.out.mono ?_
    rintro e w5 ⟨rfl, s5, x5⟩
    have S5 := Lib.hid s5
    have K5 := Lib.hid (show Blk w5 ga 32 #[.int .i64 2, .int .i64 af, .int .i64 pc, .int .i64 pg, .bool ad] from (x5 ga rfl).trans K4.out)
    clear s5 x5 a0 a1 a2 a3 a4
    go_wp2_with fail
    exact ⟨es, _, _, _, ⟨rfl, rfl, rfl⟩, rfl, rfl, rfl, by rw [← HN.out]; omega, WE.out, S5.out.without⟩
  · have dz : decide ((0 : Int) ≤ (i0 : Int)) = true := decide_eq_true (by omega)
    have hl0 : i0 < n := by have := (List.getElem?_eq_some_iff.1 hi0).1; have := HN.out; omega
    rw [hdr, hh] at DR
    obtain ⟨g6, o6, q6, g7, o7, q7, g8, o8, q8, ⟨e6, e7, e8⟩, -⟩ := KC.out i0 e0 hi0
    cases e6
    cases e7
    cases e8
    clear hh hi0 hk0 hdr
    go_wp2_with fail
    refine DR.out.mono ?_
    rintro e w5 ⟨rfl, s5, x5⟩
    have S5 := Lib.hid s5
    have K5 := Lib.hid (show Blk w5 ga 32 #[.int .i64 2, .int .i64 af, .int .i64 pc, .int .i64 pg, .bool ad] from (x5 ga rfl).trans K4.out)
    clear s5 x5 a0 a1 a2 a3 a4
    obtain ⟨k1, hk1⟩ : ∃ k1, k1 = i0 + 1 := ⟨_, rfl⟩
    rw [← hk1] at S5
    have HK1 := Lib.hid hk1
    have e0 : (i0 : Int) + 1 = (k1 : Int) := by omega
    have e0w : IntKind.i64.wrap ((i0 : Int) + 1) = (k1 : Int) := by rw [IntKind.wrap_i64]; omega
    have e0x : IntKind.i64.wrap (k1 : Int) = (k1 : Int) := by rw [IntKind.wrap_i64]; omega
    have e6 : (0 : Int) ≤ (i0 : Int) := by omega
    have e7 : (k1 : Int) ≤ (n : Int) := by omega
    have e10 : (0 : Int) ≤ (k1 : Int) := by omega
    have ek : k1 ≤ 81 := by omega
    have ee : k1 ≤ n := by omega
    obtain ⟨r, hr⟩ : ∃ r, r = n - k1 := ⟨_, rfl⟩
    have e1 : n - k1 = r := hr.symm
    have e3 : (n : Int) - (k1 : Int) = (r : Int) := by omega
    have e5 : k1 + r = n := by omega
    have ei : i0 + r ≤ 80 := by omega
    have ej : i0 + r + 1 = n := by omega
    clear hr hk1
    go_upto_region 34 with fail
    go_cut [6] from 67 to 155 (fun sx wx => Below w5.heap.size w5 wx ∧ RowAt wx w5.heap.size 2 sx (i0 + r) ((kL es).take (i0 * 2) ++ (kL es).drop (k1 * 2)))
    case first =>
      obtain ⟨iX, hiX, hx0, hx1, hx2⟩ := info_parts Try.infoKey15
      have HIX := Lib.hid hiX
      have HX0 := Lib.hid hx0
      have HX1 := Lib.hid hx1
      have HX2 := Lib.hid hx2
      have hrow := S5.out.r6
      rw [← HN.out] at hrow
      obtain ⟨hcX, hcM⟩ := hrow.cap_
      have HR := Lib.hid hrow
      have HT1 := Lib.hid (fun (W : World) (hW : Below w5.heap.size w5 W) => (HR.out.fresh hW).take_ (k := i0) (by omega))
      have BR := Lib.hid (Below.refl w5.heap.size w5)
      have BS := Lib.hid (Nat.le_refl w5.heap.size)
      have e8 : (i0 : Int) ≤ (c6 : Int) := by omega
      have e9 : (k1 : Int) ≤ (c6 : Int) := by omega
      have ed : i0 ≤ c6 := by omega
      have eg : k1 ≤ c6 := by omega
      have ef : c6 ≠ 0 := by omega
      clear hrow hiX hx0 hx1 hx2
      by_cases hkc : c6 = k1
      · have hr0 : r = 0 := by omega
        obtain rfl : n = k1 := by omega
        have hkd := hkc.symm
        subst hkd
        subst hr0
        have HT2 := Lib.hid (fun (W : World) (hW : Below w5.heap.size w5 W) => (by rw [List.drop_of_length_le (by rw [HR.out.1]; exact Nat.le_refl _)]; exact Rd.zero_ _ _ _ _ : Rd W 2 (.slice (some ⟨g6, o6, none⟩) 0 0) 0 ((kL es).drop (n * 2))))
        obtain ⟨v2, w2, v9, w9, r2, r9, b2, b9, h9⟩ := erase_run (P := Try.prog) (W := w5) 26 26 26 30 iX (.agg (plV pl0)) 2 16 Try.underlying26 HIX.out HX0.out HX1.out HX2.out rfl (by decide) i0 0 (.slice (some ⟨g6, o6, none⟩) i0 n) (.slice (some ⟨g6, o6, none⟩) 0 0) _ _ HT1.out HT2.out (by unfold maxLen; omega) (by omega)
        have B2 := Lib.hid b2
        have B9 := Lib.hid b9
        have R2 := Lib.hid r2
        have R9 := Lib.hid r9
        have H9 := Lib.hid h9
        clear r2 r9 b2 b9 h9
        go_region_held3 (fun w' => Below w5.heap.size w5 w')
          (first
            | assumption
            | exact BR.out.drew
            | exact (BR.out.alloc BS.out _).drew
            | exact B2.out
            | exact B9.out)
          (first
            | (with_reducible refine step_append_run rfl (.tmp 126) (.tmp 129) 26 rfl (.slice (some ⟨w5.heap.size, 0, none⟩) 0 0) (.slice (some ⟨g6, o6, none⟩) i0 n) rfl rfl _ _ R2.out ?_)
            | (with_reducible refine step_append_run rfl (.tmp 130) (.tmp 134) 26 rfl v2 (.slice (some ⟨g6, o6, none⟩) 0 0) rfl rfl _ _ R9.out ?_))
        go_wp2_with fail
        go_meet
        exact ⟨B9.out, H9.out⟩
      · obtain ⟨c2, hc2⟩ : ∃ c2, c2 = c6 - k1 := ⟨_, rfl⟩
        have e2 : c6 - k1 = c2 := hc2.symm
        have e4 : (c6 : Int) - (k1 : Int) = (c2 : Int) := by omega
        have eb : k1 ≠ c6 := fun h => hkc h.symm
        have ec : ¬ ((c6 : Int) = (k1 : Int)) := by omega
        clear hc2
        have HT2 := Lib.hid (fun (W : World) (hW : Below w5.heap.size w5 W) => ((HR.out.fresh hW).drop_ e5 c2 : Rd W 2 (.slice (some ⟨g6, o6 + k1 * 2, none⟩) r c2) r ((kL es).drop (k1 * 2))))
        obtain ⟨v2, w2, v9, w9, r2, r9, b2, b9, h9⟩ := erase_run (P := Try.prog) (W := w5) 26 26 26 30 iX (.agg (plV pl0)) 2 16 Try.underlying26 HIX.out HX0.out HX1.out HX2.out rfl (by decide) i0 r (.slice (some ⟨g6, o6, none⟩) i0 c6) (.slice (some ⟨g6, o6 + k1 * 2, none⟩) r c2) _ _ HT1.out HT2.out (by unfold maxLen; omega) (by omega)
        have B2 := Lib.hid b2
        have B9 := Lib.hid b9
        have R2 := Lib.hid r2
        have R9 := Lib.hid r9
        have H9 := Lib.hid h9
        clear r2 r9 b2 b9 h9
        go_region_held3 (fun w' => Below w5.heap.size w5 w')
          (first
            | assumption
            | exact BR.out.drew
            | exact (BR.out.alloc BS.out _).drew
            | exact B2.out
            | exact B9.out)
          (first
            | (with_reducible refine step_append_run rfl (.tmp 126) (.tmp 129) 26 rfl (.slice (some ⟨w5.heap.size, 0, none⟩) 0 0) (.slice (some ⟨g6, o6, none⟩) i0 c6) rfl rfl _ _ R2.out ?_)
            | (with_reducible refine step_append_run rfl (.tmp 130) (.tmp 134) 26 rfl v2 (.slice (some ⟨g6, o6 + k1 * 2, none⟩) r c2) rfl rfl _ _ R9.out ?_))
        go_wp2_with fail
        go_meet
        exact ⟨B9.out, H9.out⟩
    case rest =>
      obtain ⟨hb6, hr6⟩ := hcut
      obtain ⟨y6, rfl⟩ : ∃ y6, y6 = u6 := ⟨_, rfl⟩
      obtain ⟨wa, rfl⟩ : ∃ wa, wa = wc := ⟨_, rfl⟩
      have HB6 := Lib.hid hb6
      have HR6 := Lib.hid hr6
      have S6 := Lib.hid (S5.out.fresh hb6)
      clear hb6 hr6
      go_upto_region 35 with fail
      go_cut [7] from 67 to 155 (fun sx wx => Below wa.heap.size wa wx ∧ RowAt wx wa.heap.size 1 sx (i0 + r) ((fL es).take (i0 * 1) ++ (fL es).drop (k1 * 1)))
      case first =>
        obtain ⟨iX, hiX, hx0, hx1, hx2⟩ := info_parts Try.infoInt15
        have HIX := Lib.hid hiX
        have HX0 := Lib.hid hx0
        have HX1 := Lib.hid hx1
        have HX2 := Lib.hid hx2
        have hrow := S6.out.r7
        rw [← HN.out] at hrow
        obtain ⟨hcX, hcM⟩ := hrow.cap_
        have HR := Lib.hid hrow
        have HT1 := Lib.hid (fun (W : World) (hW : Below wa.heap.size wa W) => (HR.out.fresh hW).take_ (k := i0) (by omega))
        have BR := Lib.hid (Below.refl wa.heap.size wa)
        have BS := Lib.hid (Nat.le_refl wa.heap.size)
        have e8 : (i0 : Int) ≤ (c7 : Int) := by omega
        have e9 : (k1 : Int) ≤ (c7 : Int) := by omega
        have ed : i0 ≤ c7 := by omega
        have eg : k1 ≤ c7 := by omega
        have ef : c7 ≠ 0 := by omega
        clear hrow hiX hx0 hx1 hx2
        by_cases hkc : c7 = k1
        · have hr0 : r = 0 := by omega
          obtain rfl : n = k1 := by omega
          have hkd := hkc.symm
          subst hkd
          subst hr0
          have HT2 := Lib.hid (fun (W : World) (hW : Below wa.heap.size wa W) => (by rw [List.drop_of_length_le (by rw [HR.out.1]; exact Nat.le_refl _)]; exact Rd.zero_ _ _ _ _ : Rd W 1 (.slice (some ⟨g7, o7, none⟩) 0 0) 0 ((fL es).drop (n * 1))))
          obtain ⟨v2, w2, v9, w9, r2, r9, b2, b9, h9⟩ := erase_run (P := Try.prog) (W := wa) 27 27 27 3 iX (.int .i64 0) 1 8 Try.underlying27 HIX.out HX0.out HX1.out HX2.out rfl (by decide) i0 0 (.slice (some ⟨g7, o7, none⟩) i0 n) (.slice (some ⟨g7, o7, none⟩) 0 0) _ _ HT1.out HT2.out (by unfold maxLen; omega) (by omega)
          have B2 := Lib.hid b2
          have B9 := Lib.hid b9
          have R2 := Lib.hid r2
          have R9 := Lib.hid r9
          have H9 := Lib.hid h9
          clear r2 r9 b2 b9 h9
          go_region_held3 (fun w' => Below wa.heap.size wa w')
            (first
              | assumption
              | exact BR.out.drew
              | exact (BR.out.alloc BS.out _).drew
              | exact B2.out
              | exact B9.out)
            (first
              | (with_reducible refine step_append_run rfl (.tmp 136) (.tmp 139) 27 rfl (.slice (some ⟨wa.heap.size, 0, none⟩) 0 0) (.slice (some ⟨g7, o7, none⟩) i0 n) rfl rfl _ _ R2.out ?_)
              | (with_reducible refine step_append_run rfl (.tmp 140) (.tmp 144) 27 rfl v2 (.slice (some ⟨g7, o7, none⟩) 0 0) rfl rfl _ _ R9.out ?_))
          go_wp2_with fail
          go_meet
          exact ⟨B9.out, H9.out⟩
        · obtain ⟨c2, hc2⟩ : ∃ c2, c2 = c7 - k1 := ⟨_, rfl⟩
          have e2 : c7 - k1 = c2 := hc2.symm
          have e4 : (c7 : Int) - (k1 : Int) = (c2 : Int) := by omega
          have eb : k1 ≠ c7 := fun h => hkc h.symm
          have ec : ¬ ((c7 : Int) = (k1 : Int)) := by omega
          clear hc2
          have HT2 := Lib.hid (fun (W : World) (hW : Below wa.heap.size wa W) => (by have h := (HR.out.fresh hW).drop_ e5 c2; rw [Nat.mul_one] at h ⊢; exact h : Rd W 1 (.slice (some ⟨g7, o7 + k1, none⟩) r c2) r ((fL es).drop (k1 * 1))))
          obtain ⟨v2, w2, v9, w9, r2, r9, b2, b9, h9⟩ := erase_run (P := Try.prog) (W := wa) 27 27 27 3 iX (.int .i64 0) 1 8 Try.underlying27 HIX.out HX0.out HX1.out HX2.out rfl (by decide) i0 r (.slice (some ⟨g7, o7, none⟩) i0 c7) (.slice (some ⟨g7, o7 + k1, none⟩) r c2) _ _ HT1.out HT2.out (by unfold maxLen; omega) (by omega)
          have B2 := Lib.hid b2
          have B9 := Lib.hid b9
          have R2 := Lib.hid r2
          have R9 := Lib.hid r9
          have H9 := Lib.hid h9
          clear r2 r9 b2 b9 h9
          go_region_held3 (fun w' => Below wa.heap.size wa w')
            (first
              | assumption
              | exact BR.out.drew
              | exact (BR.out.alloc BS.out _).drew
              | exact B2.out
              | exact B9.out)
            (first
              | (with_reducible refine step_append_run rfl (.tmp 136) (.tmp 139) 27 rfl (.slice (some ⟨wa.heap.size, 0, none⟩) 0 0) (.slice (some ⟨g7, o7, none⟩) i0 c7) rfl rfl _ _ R2.out ?_)
              | (with_reducible refine step_append_run rfl (.tmp 140) (.tmp 144) 27 rfl v2 (.slice (some ⟨g7, o7 + k1, none⟩) r c2) rfl rfl _ _ R9.out ?_))
          go_wp2_with fail
          go_meet
          exact ⟨B9.out, H9.out⟩
      case rest =>
        obtain ⟨hb7, hr7⟩ := hcut
        obtain ⟨y7, rfl⟩ : ∃ y7, y7 = u7 := ⟨_, rfl⟩
        obtain ⟨wb, rfl⟩ : ∃ wb, wb = wc := ⟨_, rfl⟩
        have HB7 := Lib.hid hb7
        have HR7 := Lib.hid hr7
        have S7 := Lib.hid (S6.out.fresh hb7)
        have LEN := Lib.hid (show (es.take i0 ++ es.drop k1).length = i0 + r from by rw [List.length_append, List.length_take, List.length_drop, ← HN.out]; omega)
        clear hb7 hr7
        go_upto_region 36 with fail
        obtain ⟨iX, hiX, hx0, hx1, hx2⟩ := info_parts Try.infoBool15
        have HIX := Lib.hid hiX
        have HX0 := Lib.hid hx0
        have HX1 := Lib.hid hx1
        have HX2 := Lib.hid hx2
        have hrow := S7.out.r8
        rw [← HN.out] at hrow
        obtain ⟨hcX, hcM⟩ := hrow.cap_
        have HR := Lib.hid hrow
        have HT1 := Lib.hid (fun (W : World) (hW : Below wb.heap.size wb W) => (HR.out.fresh hW).take_ (k := i0) (by omega))
        have BR := Lib.hid (Below.refl wb.heap.size wb)
        have BS := Lib.hid (Nat.le_refl wb.heap.size)
        have e8 : (i0 : Int) ≤ (c8 : Int) := by omega
        have e9 : (k1 : Int) ≤ (c8 : Int) := by omega
        have ed : i0 ≤ c8 := by omega
        have eg : k1 ≤ c8 := by omega
        have ef : c8 ≠ 0 := by omega
        clear hrow hiX hx0 hx1 hx2
        by_cases hkc : c8 = k1
        · have hr0 : r = 0 := by omega
          obtain rfl : n = k1 := by omega
          have hkd := hkc.symm
          subst hkd
          subst hr0
          have HT2 := Lib.hid (fun (W : World) (hW : Below wb.heap.size wb W) => (by rw [List.drop_of_length_le (by rw [HR.out.1]; exact Nat.le_refl _)]; exact Rd.zero_ _ _ _ _ : Rd W 1 (.slice (some ⟨g8, o8, none⟩) 0 0) 0 ((dL es).drop (n * 1))))
          obtain ⟨v2, w2, v9, w9, r2, r9, b2, b9, h9⟩ := erase_run (P := Try.prog) (W := wb) 28 28 28 4 iX (.bool false) 1 1 Try.underlying28 HIX.out HX0.out HX1.out HX2.out rfl (by decide) i0 0 (.slice (some ⟨g8, o8, none⟩) i0 n) (.slice (some ⟨g8, o8, none⟩) 0 0) _ _ HT1.out HT2.out (by unfold maxLen; omega) (by omega)
          have B2 := Lib.hid b2
          have B9 := Lib.hid b9
          have R2 := Lib.hid r2
          have R9 := Lib.hid r9
          have H9 := Lib.hid h9
          clear r2 r9 b2 b9 h9
          go_region_held3 (fun w' => Below wb.heap.size wb w')
            (first
              | assumption
              | exact BR.out.drew
              | exact (BR.out.alloc BS.out _).drew
              | exact B2.out
              | exact B9.out)
            (first
              | (with_reducible refine step_append_run rfl (.tmp 146) (.tmp 149) 28 rfl (.slice (some ⟨wb.heap.size, 0, none⟩) 0 0) (.slice (some ⟨g8, o8, none⟩) i0 n) rfl rfl _ _ R2.out ?_)
              | (with_reducible refine step_append_run rfl (.tmp 150) (.tmp 154) 28 rfl v2 (.slice (some ⟨g8, o8, none⟩) 0 0) rfl rfl _ _ R9.out ?_))
          go_wp2_with fail
          exact ⟨_, _, _, _, ⟨rfl, rfl, rfl⟩, rfl, rfl, rfl, by rw [LEN.out]; omega, WE.out.out_, S5.out.rows_ HK1.out HB6.out HB7.out B9.out HR6.out HR7.out H9.out LEN.out⟩
        · obtain ⟨c2, hc2⟩ : ∃ c2, c2 = c8 - k1 := ⟨_, rfl⟩
          have e2 : c8 - k1 = c2 := hc2.symm
          have e4 : (c8 : Int) - (k1 : Int) = (c2 : Int) := by omega
          have eb : k1 ≠ c8 := fun h => hkc h.symm
          have ec : ¬ ((c8 : Int) = (k1 : Int)) := by omega
          clear hc2
          have HT2 := Lib.hid (fun (W : World) (hW : Below wb.heap.size wb W) => (by have h := (HR.out.fresh hW).drop_ e5 c2; rw [Nat.mul_one] at h ⊢; exact h : Rd W 1 (.slice (some ⟨g8, o8 + k1, none⟩) r c2) r ((dL es).drop (k1 * 1))))
          obtain ⟨v2, w2, v9, w9, r2, r9, b2, b9, h9⟩ := erase_run (P := Try.prog) (W := wb) 28 28 28 4 iX (.bool false) 1 1 Try.underlying28 HIX.out HX0.out HX1.out HX2.out rfl (by decide) i0 r (.slice (some ⟨g8, o8, none⟩) i0 c8) (.slice (some ⟨g8, o8 + k1, none⟩) r c2) _ _ HT1.out HT2.out (by unfold maxLen; omega) (by omega)
          have B2 := Lib.hid b2
          have B9 := Lib.hid b9
          have R2 := Lib.hid r2
          have R9 := Lib.hid r9
          have H9 := Lib.hid h9
          clear r2 r9 b2 b9 h9
          go_region_held3 (fun w' => Below wb.heap.size wb w')
            (first
              | assumption
              | exact BR.out.drew
              | exact (BR.out.alloc BS.out _).drew
              | exact B2.out
              | exact B9.out)
            (first
              | (with_reducible refine step_append_run rfl (.tmp 146) (.tmp 149) 28 rfl (.slice (some ⟨wb.heap.size, 0, none⟩) 0 0) (.slice (some ⟨g8, o8, none⟩) i0 c8) rfl rfl _ _ R2.out ?_)
              | (with_reducible refine step_append_run rfl (.tmp 150) (.tmp 154) 28 rfl v2 (.slice (some ⟨g8, o8 + k1, none⟩) r c2) rfl rfl _ _ R9.out ?_))
          go_wp2_with fail
          exact ⟨_, _, _, _, ⟨rfl, rfl, rfl⟩, rfl, rfl, rfl, by rw [LEN.out]; omega, WE.out.out_, S5.out.rows_ HK1.out HB6.out HB7.out B9.out HR6.out HR7.out H9.out LEN.out⟩
end Go.Proofs.Ytcfjkppgfjlbbaa
