/-
  The contracts of takeBad and take: a record's frames become bad, or a section has its state.
  Conditions: the record is one; it is read in memory that the registry's own blocks are no part of.
-/
import Derived.Test.YtfnegbcpiejdaabRegD
import Derived.Maps.AppendAt
namespace Go.Proofs.Ytfnegbcpiejdaab
open Go.RowKit
set_option linter.unusedVariables false

theorem RegAt.store {w : World} {gR gB gJ : Nat} {md : MD} (h : RegAt w gR gB gJ md) {f : Nat} (hf : f < 1024) :
    ∃ w', (Instr.mapUpdate 71 (.map (some gB)) (.int .i64 (f : Int)) (.agg #[])).run Try.prog w = .ok () w' ∧ RegAt w' gR gB gJ (md.1.set f true, md.2) ∧ Only gB w w' := by
  obtain ⟨w', h1, h2, h3⟩ := h.bad.run_store Try.underlying3 Try.underlying71 (by omega) f hf (.agg #[])
  refine ⟨w', h1, ⟨?_, ?_, h.ok.set_bad f true, h.ne⟩, h3⟩
  · exact (h3.1.block gR h.reg.lt (fun e => h.ne (by injection e))).trans h.reg
  · rw [badF_set (by rw [h.ok.bad]; exact hf)] at h2
    exact h2
theorem addM_snoc (md : MD) (fs : List Nat) (f : Nat) : addM md (fs ++ [f]) = ((addM md fs).1.set f true, (addM md fs).2) := by
  unfold addM
  rw [addB_snoc]
theorem numsOf_take (b : List Nat) (k n : Nat) (h : k ≤ n) : (numsOf b n).take k = numsOf b k := by
  refine List.ext_getElem (by simp [numsOf_length]; omega) fun i h1 h2 => ?_
  simp [numsOf]
set_option maxRecDepth 100000 in
set_option maxHeartbeats 2000000 in
theorem takeBad_any (gR gB gJ : Nat) (md : MD) (x : Value) (b : List Nat) (q B : Nat) (w : World) (h : RegAt w gR gB gJ md) (hx : Bts w B x b) (hBw : B ≤ w.heap.size) (hl : b.length = 2 * q) (hq : 0 < q) (hq2 : q ≤ 20) (hb : ∀ f ∈ numsOf b q, f ≤ 1023) :
    Calls Try.prog 51 #[.pointer (some ⟨gR, 0, none⟩), x] w fun e w' => e = .returned (.bool true) ∧ RegAt w' gR gB gJ (addM md (numsOf b q)) ∧ Turns (fun k => k = gB) w w' := by
  have HR := Lib.hid h
  have HX := Lib.hid hx
  have HL := Lib.hid hl
  have HF := Lib.hid hb
  have HBW := Lib.hid hBw
  obtain ⟨A, n, c, rfl, hn, -⟩ := id hx
  obtain rfl : n = 2 * q := by omega
  obtain ⟨i0, hi, hz0, hz1, hz2⟩ := info_parts Try.infoI
  obtain ⟨Z, hZ⟩ : ∃ Z, Z = madeCells (Value.int .i64 0).cells (q * 1) := ⟨_, rfl⟩
  have hmk : ∀ w : World, (Instr.makeSlice 29 (.int .i64 0) (.int .i64 (q : Int))).run Try.prog w = .ok (.slice (some ⟨w.heap.size, 0, none⟩) 0 q) (w.alloc (.cells Z 3)) := fun w => by
    rw [hZ]
    have := run_make (P := Try.prog) w 29 3 i0 (.int .i64 0) Try.underlying29 hi hz0 .i64 .i64 0 q (by omega) (by omega) (by rw [hz2]; omega) (by omega)
    simpa [hz1] using this
  have m1 : ((2 * q : Nat) : Int).tdiv 2 = (q : Int) := by rw [Int.tdiv_eq_ediv_of_nonneg (by omega)]; omega
  have hown0 := World.ownsRow_made (base := w.heap.size) (e := 3) (size := 1) w Z q (Nat.le_refl _) (by unfold maxLen; omega) (by rw [hZ]; simp [madeCells])
  have HO0 := Lib.hid hown0
  have HB0 := Lib.hid (show Below w.heap.size w (w.alloc (.cells Z 3)) from (Below.refl _ _).alloc (Nat.le_refl _) _)
  clear h hx hl hb hn hown0 hZ
  go_enter Try.func51, Try.ntmps51
  go_wp2_with fail
  go_loopg [5, 6, 7, 8] q (fun gg s5 s6 _ _ wr => ∃ k : Nat, k + gg = q ∧ s6 = .int .i64 ((2 * k : Nat) : Int) ∧ wr.ownsRow w.heap.size 3 1 s5 k ((natI (numsOf b k)).map (Value.int .i64)) ∧ Below w.heap.size w wr)
  case atStart => exact ⟨0, by omega, rfl, HO0.out, HB0.out⟩
  case round =>
    obtain ⟨k, hkg, rfl, ho, hk⟩ := hrel
    have HO := Lib.hid ho
    have HK := Lib.hid hk
    obtain ⟨A5, n5, c5, rfl, hn5, -⟩ := Its.of_own (show wr.ownsRow w.heap.size 3 1 _ (natI (numsOf b k)).length ((natI (numsOf b k)).map (fun z => Value.int .i64 z)) from by rw [natI_length, numsOf_length]; exact ho)
    obtain rfl : n5 = k := by rw [← hn5, natI_length, numsOf_length]
    clear hn5
    by_cases hlt : n5 < q
    · have t1 : decide (((2 * n5 : Nat) : Int) < ((2 * q : Nat) : Int)) = true := decide_eq_true (by omega)
      have GT := Lib.hid (get_yes (.slice A (2 * q) c) b B ((2 * n5 : Nat) : Int) 2 wr (HX.out.keep (fun p hp => hk.cell (Nat.lt_of_lt_of_le hp HBW.out))) (by have := HL.out; unfold Fit; omega))
      obtain ⟨y, hy⟩ : ∃ y, y = le (win b (2 * n5) 2) := ⟨_, rfl⟩
      have gy : getV b ((2 * n5 : Nat) : Int) 2 = (y : Int) := by unfold getV; rw [hy]; rfl
      rw [gy] at GT
      have hy3 : y ≤ 1023 := by
        refine HF.out y ?_
        rw [hy]
        unfold numsOf
        exact List.mem_map.2 ⟨n5, List.mem_range.2 hlt, rfl⟩
      have HY := Lib.hid hy
      have c1 : IntKind.i64.wrap (y : Int) = (y : Int) := by rw [IntKind.wrap_i64]; omega
      clear ho hk hy gy
      go_wp2_with fail
      refine GT.out.mono ?_
      rintro e w2 ⟨rfl, rfl⟩
      go_wp2_with (at_builtin; (refine wpList_append_own _ rfl _ _ 29 rfl w.heap.size 3 i0 (.int .i64 0) 1 8 Try.underlying29 hi hz0 hz1 hz2 rfl (by decide) _ _ _ rfl (HO.out.alloc _) ⟨wr.heap.size, 0, none⟩ 1 1 [.int .i64 (y : Int)] rfl rfl (cell_one_new _ _ _) (by simp [Value.oneCell']) (by unfold maxLen; omega) (by omega) (Nat.le_trans HK.out.size (by simp)) ?_; intro v' w1 hown' hgrow' _; have HO1 := Lib.hid hown'; have HG1 := Lib.hid hgrow'; clear hown' hgrow'; obtain ⟨g1, cap1, rfl⟩ := own_shape HO1.out (by simp)))
      go_wp2
      go_roundg (q - (n5 + 1))
      case measure => omega
      case rel =>
        refine ⟨n5 + 1, by omega, by go_num, ?_, (HK.out.alloc HK.out.size _).grown HG1.out (Nat.le_trans HK.out.size (by simp)) (fun k hk => (HO.out.lt k hk).1)⟩
        have h1 := HO1.out
        rw [HY.out] at h1
        rw [numsOf_succ]
        simpa [natI] using h1
    · obtain rfl : n5 = q := by omega
      have t1 : decide (((2 * n5 : Nat) : Int) < ((2 * n5 : Nat) : Int)) = false := decide_eq_false (by omega)
      have hit : Its wr wr.heap.size (.slice A5 n5 c5) (natI (numsOf b n5)) := Its.of_own (show wr.ownsRow w.heap.size 3 1 _ (natI (numsOf b n5)).length ((natI (numsOf b n5)).map (fun z => Value.int .i64 z)) from by rw [natI_length, numsOf_length]; exact ho)
      have HIT := Lib.hid hit
      have MB := Lib.hid (mayBad_any _ _ wr hit)
      rw [decide_eq_true (show MayBad (natI (numsOf b n5)) from ⟨by rw [natI_length, numsOf_length]; exact hq2, fun f hf => by
        obtain ⟨y, hy, rfl⟩ := List.mem_map.1 hf
        have := HF.out y hy
        exact ⟨by omega, by omega⟩⟩)] at MB
      obtain ⟨g5, cap5, hv5⟩ := own_shape ho (by omega)
      injection hv5 with e1 e2 e3
      subst e1 e3
      have HG5 := Lib.hid (show w.heap.size ≤ g5 from (ho.lt g5 rfl).1)
      have HRW := Lib.hid (HR.out.fresh hk)
      have c5 : ((n5 : Int) == 0) = false := beq_eq_false_iff_ne.2 (by omega)
      clear ho hk hit
      go_wp2_with fail
      refine MB.out.mono ?_
      rintro e w2 ⟨rfl, hb2⟩
      have HB2 := Lib.hid hb2
      have HR2 := Lib.hid (HRW.out.fresh hb2)
      have HIT2 := Lib.hid (HIT.out.below hb2)
      clear hb2
      go_wp2_with fail
      go_loopg [10, 44] n5 (fun gg _ s44 w3 => ∃ k : Nat, k + gg = n5 ∧ s44 = .int .i64 (k : Int) ∧ RegAt w3 gR gB gJ (addM md ((numsOf b n5).take k)) ∧ Turns (fun k => k = gB) w2 w3)
      case atStart => exact ⟨0, by omega, rfl, HR2.out, Turns.refl _ _⟩
      case round =>
        obtain ⟨k, hkg, rfl, hr3, ht3⟩ := hrel
        have HR3 := Lib.hid hr3
        have HT3 := Lib.hid ht3
        by_cases hlt : k < n5
        · have t3 : decide ((k : Int) < (n5 : Int)) = true := decide_eq_true (by omega)
          have hne : g5 ≠ gB := by have := HG5.out; have := HR.out.bad.blk; omega
          obtain ⟨_, _, _, ev, hl2, _, _, hc2⟩ := HIT2.out
          injection ev with e1 e2 e3
          subst e1 e2 e3
          obtain ⟨_, off, ea, hgl, hcc⟩ := hc2 (by omega)
          injection ea with ea
          injection ea with ea1 ea2
          subst ea1 ea2
          obtain ⟨y, hy⟩ : ∃ y, y = (numsOf b n5).getD k 0 := ⟨_, rfl⟩
          have hcell : wr.cell? ⟨g5, k, none⟩ = some (.int .i64 (y : Int)) := by
            rw [World.cell?_of_block (ht3.block g5 (Nat.lt_of_lt_of_le hgl HB2.out.size) hne)]
            have := hcc k hlt
            rw [natI_getD _ _ (by rw [numsOf_length]; exact hlt), ← hy] at this
            simpa using this
          have hy3 : y < 1024 := by
            have e : (numsOf b n5).getD k 0 = (numsOf b n5)[k]'(by rw [numsOf_length]; exact hlt) := by simp [show k < (numsOf b n5).length by rw [numsOf_length]; exact hlt]
            have := HF.out y (by rw [hy, e]; exact List.getElem_mem _)
            omega
          have c1 := hr3.cell1
          obtain ⟨w4, hst, hr4, ho4⟩ := hr3.store hy3
          have HR4 := Lib.hid hr4
          have HO4 := Lib.hid ho4
          have HY := Lib.hid hy
          clear hr3 ht3 hc2 hcc hr4 ho4 hy
          go_wp2
          go_roundg (n5 - (k + 1))
          case measure => omega
          case rel =>
            refine ⟨k + 1, by omega, by go_num, ?_, HT3.out.trans (Turns.of_only HO4.out rfl)⟩
            rw [natTake _ _ (by rw [numsOf_length]; exact hlt), ← HY.out, addM_snoc]
            exact HR4.out
        · obtain rfl : k = n5 := by omega
          have t3 : decide ((k : Int) < (k : Int)) = false := decide_eq_false (by omega)
          clear hr3 ht3
          go_wp2
          go_ret
          have h3 := HR3.out
          rw [List.take_of_length_le (by rw [numsOf_length]; exact Nat.le_refl _)] at h3
          exact ⟨rfl, h3, (Turns.of_below (HK.out.trans (HB2.out.mono HK.out.size)) (Nat.le_refl _)).trans HT3.out⟩

/-! ### take -/
set_option maxRecDepth 100000 in
set_option maxHeartbeats 1600000 in
theorem take_any (gR gB gJ : Nat) (md md' : MD) (x : Value) (r : List Nat) (B : Nat) (w : World) (h : RegAt w gR gB gJ md) (hx : Bts w B x r) (hBw : B ≤ w.heap.size) (hr : decX md r = some md') :
    Calls Try.prog 34 #[.pointer (some ⟨gR, 0, none⟩), x] w fun e w' => e = .returned (.bool true) ∧ RegAt w' gR gB gJ md' ∧ Turns (fun k => k = gR ∨ k = gB) w w' := by
  cases r with
  | nil => cases hr
  | cons k b =>
    obtain ⟨A, n, c, rfl, hl, hlm, ⟨hc, hn⟩, hcm, hb, hcell⟩ := id hx
    simp only [List.length_cons] at hl
    have hn0 : 0 < n := by omega
    obtain ⟨g, off, rfl, hgB, hcl⟩ := hcell hn0
    have c0 : w.cell? ⟨g, off, none⟩ = some (.int .u8 (k : Int)) := by simpa using hcl 0 hn0
    have hb0 := hb 0 hn0
    have hbb : Bts w B (.slice (some ⟨g, off + 1, none⟩) (n - 1) (c - 1)) b := by
      refine ⟨_, n - 1, c - 1, rfl, by omega, by omega, ⟨by omega, fun h => by cases h⟩, by omega, fun j hj => ?_, fun h0 => ⟨g, off + 1, rfl, hgB, fun j hj => ?_⟩⟩
      · have := hb (j + 1) (by omega)
        simpa using this
      · have := hcl (j + 1) (by omega)
        rw [show off + 1 + j = off + (j + 1) by omega, this]
        simp
    have HBB := Lib.hid hbb
    have HR := Lib.hid h
    have HBW := Lib.hid hBw
    have HL := Lib.hid hl
    have hi1 : (0 : Int) < (n : Int) := by omega
    have hi2 : (1 : Int) ≤ (n : Int) := by omega
    unfold decX at hr
    by_cases k2 : k = 2
    · subst k2
      simp only [if_true] at hr
      split at hr
      · rename_i cs
        injection hr with hr
        subst hr
        have TB := Lib.hid (takeBad_any gR gB gJ md _ b (b.length / 2) B w h hbb hBw (by omega) (by omega) cs.2.2.1 cs.2.2.2)
        have hc1 : c ≠ 1 := by omega
        have hc2 : 1 ≤ c := by omega
        clear h hx hl hlm hc hn hcm hb hcell hcl hbb hb0 cs hBw
        go_enter Try.func34, Try.ntmps34
        go_wp2_with fail
        refine TB.out.mono ?_
        rintro e w' ⟨rfl, hr, ht⟩
        have HR' := Lib.hid hr
        have HT' := Lib.hid ht
        clear hr ht
        go_wp2
        go_ret
        exact ⟨rfl, HR'.out, HT'.out.mono (fun k hk => .inr hk)⟩
      · cases hr
    · simp only [if_neg k2] at hr
      by_cases k3 : k = 3
      · subst k3
        simp only [if_true] at hr
        split at hr
        · rename_i cs
          injection hr with hr
          subst hr
          obtain ⟨s, v, rfl⟩ : ∃ s v, b = [s, v] := by
            match b, cs.1 with
            | [s, v], _ => exact ⟨s, v, rfl⟩
          have TS := Lib.hid (takeState_any gR gB gJ md _ s v B w h hbb cs.2.1 cs.2.2)
          have hc1 : c ≠ 1 := by simp at hl; omega
          have hc2 : 1 ≤ c := by omega
          clear h hx hl hlm hc hn hcm hb hcell hcl hbb hb0 cs hBw k2
          go_enter Try.func34, Try.ntmps34
          go_wp2_with fail
          refine TS.out.mono ?_
          rintro e w' ⟨rfl, hr, ht⟩
          have HR' := Lib.hid hr
          have HT' := Lib.hid ht
          clear hr ht
          go_wp2
          go_ret
          exact ⟨rfl, HR'.out, HT'.out.mono (fun k hk => .inl hk)⟩
        · cases hr
      · simp only [if_neg k3] at hr
        cases hr
end Go.Proofs.Ytfnegbcpiejdaab
