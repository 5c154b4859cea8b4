/-
  The document's own Insert of layer 17.
  Conditions: the areas are read in memory.
-/
import Derived.Test.YtpkgmmfnlifocaaArC
namespace Go.Proofs.Ytpkgmmfnlifocaa
open Go.RowKit
set_option linter.unusedVariables false

/-- A slice lies in no block below. -/
def NewB (B : Nat) (v : Value) : Prop := ∀ a n c, v = .slice (some a) n c → B ≤ a.block
theorem newB_own {w : World} {base size n B : Nat} {e : TypeId} {v : Value} {xs : List Value} (h : w.ownsRow base e size v n xs) (hb : B ≤ base) : NewB B v := by
  intro a n' c e
  rcases h.2 with ⟨rfl, _⟩ | ⟨g, cap, cur, rfl, hg, _⟩
  · cases e
  · injection e with e _ _
    injection e with e
    rw [← e]
    exact Nat.le_trans hb hg
theorem rdZero (w : World) (A : Option Addr) (c size : Nat) : Rd w size (.slice A 0 c) 0 [] := ⟨A, c, rfl, by simp, fun u h => absurd h List.not_mem_nil, fun h => absurd h (Nat.lt_irrefl _)⟩
set_option maxRecDepth 20000 in
set_option maxHeartbeats 6400000 in
theorem refInsert_any (v : Value) (l : List Ar) (a : Ar) (w : World) (h : Ars w w.heap.size v l) (hm : l.length ≤ 100000) :
    Calls Try.prog 15 #[v, .agg #[.int .i64 a.fr, .int .i64 a.pg, .bool a.w, .int .i64 a.kd, .int .i64 a.fl, .int .i64 a.ofs]] w fun e w' => ∃ v', e = .returned v' ∧ (Ars w' w'.heap.size v' (insA l a) ∧ NewB w.heap.size v') ∧ Below w.heap.size w w' := by
  obtain ⟨fr, pg, w0, kd, fl, ofs⟩ := a
  have HP := Lib.hid h
  obtain ⟨A, n, c, rfl, hn, hnc, hc, hA0, -⟩ := h
  have HSA := Lib.hid hA0
  have HN := Lib.hid hn
  have hn1 : n ≤ 100000 := by omega
  unfold maxLen at hc
  have HB := Lib.hid (belAr (Below.refl w.heap.size w) (.cells #[Value.int .i64 fr, .int .i64 pg, .bool w0, .int .i64 kd, .int .i64 fl, .int .i64 ofs] 23))
  have HK := Lib.hid (Blk.new w 23 #[Value.int .i64 fr, .int .i64 pg, .bool w0, .int .i64 kd, .int .i64 fl, .int .i64 ofs])
  obtain ⟨g3, hg3⟩ : ∃ g3, g3 = w.heap.size := ⟨_, rfl⟩
  clear hn hm hA0
  go_enter Try.func15, Try.ntmps15
  go_wp2_with fail
  obtain ⟨W1, hW1⟩ : ∃ W1, W1 = w.alloc (.cells #[Value.int .i64 fr, .int .i64 pg, .bool w0, .int .i64 kd, .int .i64 fl, .int .i64 ofs] 23) := ⟨_, rfl⟩
  rw [← hW1] at HB HK ⊢
  rw [← hg3] at HK ⊢
  have HG := Lib.hid hg3
  clear hW1 hg3
  go_loopg [5] (n - 0) (fun gg s5 wx => ∃ k m : Nat, k + gg = n ∧ s5 = .int .i64 (k : Int) ∧ wx = W1.drewN m ∧ k ≤ posA l fr)
  case atStart => exact ⟨0, 0, by omega, rfl, rfl, Nat.zero_le _⟩
  case round =>
    obtain ⟨k, m, hk, rfl, rfl, hpos⟩ := hrel
    have HPOS := Lib.hid hpos
    have k0 := HK.out.cell 0
    have k1 := HK.out.cell 1
    have k2 := HK.out.cell 2
    have k3 := HK.out.cell 3
    have k4 := HK.out.cell 4
    have k5 := HK.out.cell 5
    clear hpos
    by_cases hlt : k < n
    · obtain ⟨b, o, rfl, hb, hce⟩ := HP.out.at_ (by omega)
      obtain ⟨⟨x1, x2, x3, x4, x5, x6⟩, hg, d0, -⟩ := hce k hlt
      have HXX := Lib.hid hg
      simp only at d0
      replace d0 : W1.cell? ⟨b, o + k * 6, none⟩ = some (.int .i64 x1) := (HB.out.cell (p := ⟨b, o + k * 6, none⟩) hb).trans d0
      clear hce hg
      have u0 : decide ((k : Int) < (n : Int)) = true := decide_eq_true (by omega)
      have u5 : (k : Int) < (n : Int) := by omega
      have u6 : (0 : Int) ≤ (k : Int) := by omega
      by_cases hl : x1 < fr
      · have HNX := Lib.hid (show k + 1 ≤ posA l fr from by
          rcases Nat.lt_or_ge k (posA l fr) with h | h
          · exact h
          · have : posA l fr = k := Nat.le_antisymm h HPOS.out
            exact absurd hl (posA_at (by rw [this]; exact HXX.out)))
        have u1 : decide (x1 < fr) = true := decide_eq_true hl
        go_wp2
        go_quiet (fail)
        go_wp2
        go_roundg (n - (k + 1))
        case measure => omega
        case rel => exact ⟨k + 1, m + nq, by omega, by go_num, rfl, HNX.out⟩
      · have HE := Lib.hid (show posA l fr = k from by
          rcases Nat.lt_or_ge k (posA l fr) with h | h
          · obtain ⟨y, e1, e2⟩ := posA_lt h
            rw [HXX.out] at e1
            injection e1 with e1
            subst e1
            exact absurd e2 hl
          · exact Nat.le_antisymm h HPOS.out)
        have u1 : decide (x1 < fr) = false := decide_eq_false hl
        clear hl
        go_wp2
        go_quiet (fail)
        obtain ⟨q1, rfl⟩ : ∃ q1, q1 = nq := ⟨_, rfl⟩
        obtain ⟨r, hr⟩ : ∃ r, r = n - k := ⟨_, rfl⟩
        obtain ⟨c2, hc2⟩ : ∃ c2, c2 = c - k := ⟨_, rfl⟩
        have e1 : n - k = r := hr.symm
        have e2 : c - k = c2 := hc2.symm
        have e3 : (n : Int) - (k : Int) = (r : Int) := by omega
        have e4 : (c : Int) - (k : Int) = (c2 : Int) := by omega
        have e5 : k + r = n := by omega
        clear hr hc2
        have e6 : (0 : Int) ≤ (k : Int) := by omega
        have e7 : (k : Int) ≤ (n : Int) := by omega
        have e8 : (k : Int) ≤ (c : Int) := by omega
        have e9 : (n : Int) ≤ (c : Int) := by omega
        have ea : c ≠ k := by omega
        have eb : k ≠ c := by omega
        have ec : ¬ ((c : Int) = (k : Int)) := by omega
        have ed : k ≤ c := by omega
        have ee : k ≤ n := by omega
        go_wp2_with fail
        generalize hwr : (W1.drewN m).drewN q1 = wr
        have HBW := Lib.hid (show Below w.heap.size w wr from hwr ▸ below_drewN (below_drewN HB.out _) _)
        have HKW := Lib.hid (show Blk wr g3 23 #[Value.int .i64 fr, .int .i64 pg, .bool w0, .int .i64 kd, .int .i64 fl, .int .i64 ofs] from hwr ▸ HK.out)
        clear hwr k0 k1 k2 k3 k4 k5
        obtain ⟨iP, hiP, hp0, hp1, hp2⟩ := info_parts Try.infoAreaT
        have HIP := Lib.hid hiP
        have HP0 := Lib.hid hp0
        have HP1 := Lib.hid hp1
        have HP2 := Lib.hid hp2
        have HPW := Lib.hid (HP.out.fresh HBW.out)
        have HT1 := Lib.hid (fun (W : World) (hW : Below wr.heap.size wr W) => (HPW.out.below hW).take_ k (by omega))
        have HT2 := Lib.hid (fun (W : World) (hW : Below wr.heap.size wr W) => ((HPW.out.below hW).drop_ k r e5 c2 : Rd W 6 (.slice (some ⟨b, o + k * 6, none⟩) r c2) r (flatA (l.drop k))))
        have HU := Lib.hid (show ([Value.int .i64 fr, .int .i64 pg, .bool w0, .int .i64 kd, .int .i64 fl, .int .i64 ofs]).length = 6 from rfl)
        have HU1 := Lib.hid (show ∀ u ∈ [Value.int .i64 fr, .int .i64 pg, .bool w0, .int .i64 kd, .int .i64 fl, .int .i64 ofs], u.oneCell' = true from flatA_one [⟨fr, pg, w0, kd, fl, ofs⟩])
        have HQ1 := Lib.hid (show k + 1 ≤ maxLen from by unfold maxLen; omega)
        have HQ2 := Lib.hid (show (k + 1) * 48 ≤ 140737488355328 from by omega)
        have HCUT := Lib.hid (show insA l ⟨fr, pg, w0, kd, fl, ofs⟩ = l.take k ++ [⟨fr, pg, w0, kd, fl, ofs⟩] ++ l.drop k from by unfold insA; simp only; rw [HE.out])
        obtain ⟨va2, wa2, va8, wa8, ra2, ra8, ba2, ba8, la8⟩ := app_a (P := Try.prog) (wr := wr) 26 26 26 23 iP (.agg (arL ar0).toArray) 6 48 Try.underlying26 HIP.out HP0.out HP1.out HP2.out rfl (by decide) _ _ HQ1.out HQ2.out _ HT1.out [Value.int .i64 fr, .int .i64 pg, .bool w0, .int .i64 kd, .int .i64 fl, .int .i64 ofs] HU.out HU1.out
        obtain ⟨va9, wa9, ra9, la9, ga9⟩ := run_app (P := Try.prog) wr.heap.size 26 26 23 iP (.agg (arL ar0).toArray) 6 48 Try.underlying26 HIP.out HP0.out HP1.out HP2.out rfl (by decide) _ _ _ la8 _ _ _ (HT2.out _ ba8) (by unfold maxLen; omega) (by omega) ba8.size
        have BA2 := Lib.hid ba2
        have BA8 := Lib.hid ba8
        have BA9 := Lib.hid (ba8.trans (own_below la8 ga9 ba8.size))
        have RA2 := Lib.hid ra2
        have RA8 := Lib.hid ra8
        have RA9 := Lib.hid ra9
        have LA9 := Lib.hid (show ∃ v', Ending.returned va9 = Ending.returned v' ∧ (Ars wa9 wa9.heap.size v' (insA l ⟨fr, pg, w0, kd, fl, ofs⟩) ∧ NewB w.heap.size v') ∧ Below w.heap.size w wa9 from by
          refine ⟨_, rfl, ⟨?_, newB_own la9 HBW.out.size⟩, HBW.out.trans (BA9.out.mono HBW.out.size)⟩
          refine Gs.of_own (l := insA l ⟨fr, pg, w0, kd, fl, ofs⟩) (by rw [HCUT.out, flatA_append, flatA_append]; exact la9) (by rw [HCUT.out, List.length_append, List.length_append, List.length_take, List.length_drop, HN.out]; simp <;> omega))
        clear ra2 ra8 ra9 ba2 ba8 la8 la9 ga9
        obtain ⟨vb2, wb2, vb8, wb8, rb2, rb8, bb2, bb8, lb8⟩ := app_b (P := Try.prog) (wr := wr) 26 26 26 23 iP (.agg (arL ar0).toArray) 6 48 Try.underlying26 HIP.out HP0.out HP1.out HP2.out rfl (by decide) _ _ HQ1.out HQ2.out _ HT1.out [Value.int .i64 fr, .int .i64 pg, .bool w0, .int .i64 kd, .int .i64 fl, .int .i64 ofs] HU.out HU1.out
        obtain ⟨vb9, wb9, rb9, lb9, gb9⟩ := run_app (P := Try.prog) wr.heap.size 26 26 23 iP (.agg (arL ar0).toArray) 6 48 Try.underlying26 HIP.out HP0.out HP1.out HP2.out rfl (by decide) _ _ _ lb8 _ _ _ (HT2.out _ bb8) (by unfold maxLen; omega) (by omega) bb8.size
        have BB2 := Lib.hid bb2
        have BB8 := Lib.hid bb8
        have BB9 := Lib.hid (bb8.trans (own_below lb8 gb9 bb8.size))
        have RB2 := Lib.hid rb2
        have RB8 := Lib.hid rb8
        have RB9 := Lib.hid rb9
        have LB9 := Lib.hid (show ∃ v', Ending.returned vb9 = Ending.returned v' ∧ (Ars wb9 wb9.heap.size v' (insA l ⟨fr, pg, w0, kd, fl, ofs⟩) ∧ NewB w.heap.size v') ∧ Below w.heap.size w wb9 from by
          refine ⟨_, rfl, ⟨?_, newB_own lb9 HBW.out.size⟩, HBW.out.trans (BB9.out.mono HBW.out.size)⟩
          refine Gs.of_own (l := insA l ⟨fr, pg, w0, kd, fl, ofs⟩) (by rw [HCUT.out, flatA_append, flatA_append]; exact lb9) (by rw [HCUT.out, List.length_append, List.length_append, List.length_take, List.length_drop, HN.out]; simp <;> omega))
        clear rb2 rb8 rb9 bb2 bb8 lb8 lb9 gb9
        obtain ⟨vc2, wc2, vc8, wc8, rc2, rc8, bc2, bc8, lc8⟩ := app_c (P := Try.prog) (wr := wr) 26 26 26 23 iP (.agg (arL ar0).toArray) 6 48 Try.underlying26 HIP.out HP0.out HP1.out HP2.out rfl (by decide) _ _ HQ1.out HQ2.out _ HT1.out [Value.int .i64 fr, .int .i64 pg, .bool w0, .int .i64 kd, .int .i64 fl, .int .i64 ofs] HU.out HU1.out
        obtain ⟨vc9, wc9, rc9, lc9, gc9⟩ := run_app (P := Try.prog) wr.heap.size 26 26 23 iP (.agg (arL ar0).toArray) 6 48 Try.underlying26 HIP.out HP0.out HP1.out HP2.out rfl (by decide) _ _ _ lc8 _ _ _ (HT2.out _ bc8) (by unfold maxLen; omega) (by omega) bc8.size
        have BC2 := Lib.hid bc2
        have BC8 := Lib.hid bc8
        have BC9 := Lib.hid (bc8.trans (own_below lc8 gc9 bc8.size))
        have RC2 := Lib.hid rc2
        have RC8 := Lib.hid rc8
        have RC9 := Lib.hid rc9
        have LC9 := Lib.hid (show ∃ v', Ending.returned vc9 = Ending.returned v' ∧ (Ars wc9 wc9.heap.size v' (insA l ⟨fr, pg, w0, kd, fl, ofs⟩) ∧ NewB w.heap.size v') ∧ Below w.heap.size w wc9 from by
          refine ⟨_, rfl, ⟨?_, newB_own lc9 HBW.out.size⟩, HBW.out.trans (BC9.out.mono HBW.out.size)⟩
          refine Gs.of_own (l := insA l ⟨fr, pg, w0, kd, fl, ofs⟩) (by rw [HCUT.out, flatA_append, flatA_append]; exact lc9) (by rw [HCUT.out, List.length_append, List.length_append, List.length_take, List.length_drop, HN.out]; simp <;> omega))
        clear rc2 rc8 rc9 bc2 bc8 lc8 lc9 gc9
        have HCL := Lib.hid (show ∀ w', Below wr.heap.size wr w' → (w'.cell? ⟨g3, 0, none⟩ = some (.int .i64 fr) ∧ w'.cell? ⟨g3, 1, none⟩ = some (.int .i64 pg) ∧ w'.cell? ⟨g3, 2, none⟩ = some (.bool w0) ∧ w'.cell? ⟨g3, 3, none⟩ = some (.int .i64 kd) ∧ w'.cell? ⟨g3, 4, none⟩ = some (.int .i64 fl) ∧ w'.cell? ⟨g3, 5, none⟩ = some (.int .i64 ofs)) ∧ Below wr.heap.size wr w' from fun w' hw' => ⟨⟨(HKW.out.below hw' HKW.out.lt).cell 0, (HKW.out.below hw' HKW.out.lt).cell 1, (HKW.out.below hw' HKW.out.lt).cell 2, (HKW.out.below hw' HKW.out.lt).cell 3, (HKW.out.below hw' HKW.out.lt).cell 4, (HKW.out.below hw' HKW.out.lt).cell 5⟩, hw'⟩)
        have BR := Lib.hid (Below.refl wr.heap.size wr)
        have BS := Lib.hid (Nat.le_refl wr.heap.size)
        clear hiP hp0 hp1 hp2
        go_region_held3 (fun w' => (w'.cell? ⟨g3, 0, none⟩ = some (.int .i64 fr) ∧ w'.cell? ⟨g3, 1, none⟩ = some (.int .i64 pg) ∧ w'.cell? ⟨g3, 2, none⟩ = some (.bool w0) ∧ w'.cell? ⟨g3, 3, none⟩ = some (.int .i64 kd) ∧ w'.cell? ⟨g3, 4, none⟩ = some (.int .i64 fl) ∧ w'.cell? ⟨g3, 5, none⟩ = some (.int .i64 ofs)) ∧ Below wr.heap.size wr w')
          (first
            | assumption
            | exact HCL.out _ BR.out.drew
            | exact HCL.out _ (BR.out.alloc BS.out _).drew
            | exact HCL.out _ ((BR.out.alloc BS.out _).alloc (by simp) _).drew
            | exact HCL.out _ BA2.out
            | exact HCL.out _ BB2.out
            | exact HCL.out _ BC2.out
            | exact HCL.out _ (BA2.out.alloc BA2.out.size _)
            | exact HCL.out _ BA8.out
            | exact HCL.out _ BB8.out
            | exact HCL.out _ BC8.out
            | exact HCL.out _ BA9.out
            | exact HCL.out _ BB9.out
            | exact HCL.out _ BC9.out)
          (first
            | (with_reducible refine step_append_run rfl (.tmp 22) (.tmp 25) 26 rfl (.slice (some ⟨wr.heap.size, 0, none⟩) 0 0) (.slice (some ⟨b, o, none⟩) k c) rfl rfl _ _ RA2.out ?_)
            | (with_reducible refine step_append_run rfl (.tmp 22) (.tmp 25) 26 rfl (.slice (some ⟨wr.heap.size, 0, none⟩) 0 0) (.slice (some ⟨b, o, none⟩) k c) rfl rfl _ _ RB2.out ?_)
            | (with_reducible refine step_append_run rfl (.tmp 22) (.tmp 25) 26 rfl (.slice (some ⟨wr.heap.size + 1, 0, none⟩) 0 0) (.slice (some ⟨b, o, none⟩) k c) rfl rfl _ _ RC2.out ?_)
            | (with_reducible refine step_append_run rfl (.tmp 26) (.tmp 28) 26 rfl va2 (.slice (some ⟨wa2.heap.size, 0, none⟩) 1 1) rfl rfl _ _ RA8.out ?_)
            | (with_reducible refine step_append_run rfl (.tmp 26) (.tmp 28) 26 rfl vb2 (.slice (some ⟨wr.heap.size + 1, 0, none⟩) 1 1) rfl rfl _ _ RB8.out ?_)
            | (with_reducible refine step_append_run rfl (.tmp 26) (.tmp 28) 26 rfl vc2 (.slice (some ⟨wr.heap.size, 0, none⟩) 1 1) rfl rfl _ _ RC8.out ?_)
            | (with_reducible refine step_append_run rfl (.tmp 29) (.tmp 32) 26 rfl va8 (.slice (some ⟨b, o + k * 6, none⟩) r c2) rfl rfl _ _ RA9.out ?_)
            | (with_reducible refine step_append_run rfl (.tmp 29) (.tmp 32) 26 rfl vb8 (.slice (some ⟨b, o + k * 6, none⟩) r c2) rfl rfl _ _ RB9.out ?_)
            | (with_reducible refine step_append_run rfl (.tmp 29) (.tmp 32) 26 rfl vc8 (.slice (some ⟨b, o + k * 6, none⟩) r c2) rfl rfl _ _ RC9.out ?_))
        all_goals
          go_wp2
          go_ret
          first
            | exact LA9.out
            | exact LB9.out
            | exact LC9.out
    · obtain rfl : k = n := by omega
      have u0 : decide ((k : Int) < (k : Int)) = false := decide_eq_false (by omega)
      have HE := Lib.hid (show posA l fr = k from by have := HPOS.out; have := posA_le l fr; have := HN.out; omega)
      have HD0 := Lib.hid (show flatA (l.drop k) = [] from by rw [List.drop_of_length_le (by rw [HN.out]; exact Nat.le_refl _)]; rfl)
      have e6 : (0 : Int) ≤ (k : Int) := by omega
      have e8 : (k : Int) ≤ (c : Int) := by omega
      have ed : k ≤ c := by omega
      by_cases hkc : c = k
      · have hkd := hkc.symm
        subst hkd
        go_wp2
        go_quiet (fail)
        obtain ⟨q1, rfl⟩ : ∃ q1, q1 = nq := ⟨_, rfl⟩
        go_wp2_with fail
        generalize hwr : (W1.drewN m).drewN q1 = wr
        have HBW := Lib.hid (show Below w.heap.size w wr from hwr ▸ below_drewN (below_drewN HB.out _) _)
        have HKW := Lib.hid (show Blk wr g3 23 #[Value.int .i64 fr, .int .i64 pg, .bool w0, .int .i64 kd, .int .i64 fl, .int .i64 ofs] from hwr ▸ HK.out)
        clear hwr k0 k1 k2 k3 k4 k5
        obtain ⟨iP, hiP, hp0, hp1, hp2⟩ := info_parts Try.infoAreaT
        have HIP := Lib.hid hiP
        have HP0 := Lib.hid hp0
        have HP1 := Lib.hid hp1
        have HP2 := Lib.hid hp2
        have HPW := Lib.hid (HP.out.fresh HBW.out)
        have HT1 := Lib.hid (fun (W : World) (hW : Below wr.heap.size wr W) => (HPW.out.below hW).take_ k (by omega))
        have HT2 := Lib.hid (fun (W : World) (hW : Below wr.heap.size wr W) => ((by rw [HD0.out]; exact rdZero _ _ _ _) : Rd W 6 (.slice A 0 0) 0 (flatA (l.drop k))))
        have HU := Lib.hid (show ([Value.int .i64 fr, .int .i64 pg, .bool w0, .int .i64 kd, .int .i64 fl, .int .i64 ofs]).length = 6 from rfl)
        have HU1 := Lib.hid (show ∀ u ∈ [Value.int .i64 fr, .int .i64 pg, .bool w0, .int .i64 kd, .int .i64 fl, .int .i64 ofs], u.oneCell' = true from flatA_one [⟨fr, pg, w0, kd, fl, ofs⟩])
        have HQ1 := Lib.hid (show k + 1 ≤ maxLen from by unfold maxLen; omega)
        have HQ2 := Lib.hid (show (k + 1) * 48 ≤ 140737488355328 from by omega)
        have HCUT := Lib.hid (show insA l ⟨fr, pg, w0, kd, fl, ofs⟩ = l.take k ++ [⟨fr, pg, w0, kd, fl, ofs⟩] ++ l.drop k from by unfold insA; simp only; rw [HE.out])
        obtain ⟨va2, wa2, va8, wa8, ra2, ra8, ba2, ba8, la8⟩ := app_a (P := Try.prog) (wr := wr) 26 26 26 23 iP (.agg (arL ar0).toArray) 6 48 Try.underlying26 HIP.out HP0.out HP1.out HP2.out rfl (by decide) _ _ HQ1.out HQ2.out _ HT1.out [Value.int .i64 fr, .int .i64 pg, .bool w0, .int .i64 kd, .int .i64 fl, .int .i64 ofs] HU.out HU1.out
        obtain ⟨va9, wa9, ra9, la9, ga9⟩ := run_app (P := Try.prog) wr.heap.size 26 26 23 iP (.agg (arL ar0).toArray) 6 48 Try.underlying26 HIP.out HP0.out HP1.out HP2.out rfl (by decide) _ _ _ la8 _ _ _ (HT2.out _ ba8) (by unfold maxLen; omega) (by omega) ba8.size
        have BA2 := Lib.hid ba2
        have BA8 := Lib.hid ba8
        have BA9 := Lib.hid (ba8.trans (own_below la8 ga9 ba8.size))
        have RA2 := Lib.hid ra2
        have RA8 := Lib.hid ra8
        have RA9 := Lib.hid ra9
        have LA9 := Lib.hid (show ∃ v', Ending.returned va9 = Ending.returned v' ∧ (Ars wa9 wa9.heap.size v' (insA l ⟨fr, pg, w0, kd, fl, ofs⟩) ∧ NewB w.heap.size v') ∧ Below w.heap.size w wa9 from by
          refine ⟨_, rfl, ⟨?_, newB_own la9 HBW.out.size⟩, HBW.out.trans (BA9.out.mono HBW.out.size)⟩
          refine Gs.of_own (l := insA l ⟨fr, pg, w0, kd, fl, ofs⟩) (by rw [HCUT.out, flatA_append, flatA_append]; exact la9) (by rw [HCUT.out, List.length_append, List.length_append, List.length_take, List.length_drop, HN.out]; simp <;> omega))
        clear ra2 ra8 ra9 ba2 ba8 la8 la9 ga9
        obtain ⟨vb2, wb2, vb8, wb8, rb2, rb8, bb2, bb8, lb8⟩ := app_b (P := Try.prog) (wr := wr) 26 26 26 23 iP (.agg (arL ar0).toArray) 6 48 Try.underlying26 HIP.out HP0.out HP1.out HP2.out rfl (by decide) _ _ HQ1.out HQ2.out _ HT1.out [Value.int .i64 fr, .int .i64 pg, .bool w0, .int .i64 kd, .int .i64 fl, .int .i64 ofs] HU.out HU1.out
        obtain ⟨vb9, wb9, rb9, lb9, gb9⟩ := run_app (P := Try.prog) wr.heap.size 26 26 23 iP (.agg (arL ar0).toArray) 6 48 Try.underlying26 HIP.out HP0.out HP1.out HP2.out rfl (by decide) _ _ _ lb8 _ _ _ (HT2.out _ bb8) (by unfold maxLen; omega) (by omega) bb8.size
        have BB2 := Lib.hid bb2
        have BB8 := Lib.hid bb8
        have BB9 := Lib.hid (bb8.trans (own_below lb8 gb9 bb8.size))
        have RB2 := Lib.hid rb2
        have RB8 := Lib.hid rb8
        have RB9 := Lib.hid rb9
        have LB9 := Lib.hid (show ∃ v', Ending.returned vb9 = Ending.returned v' ∧ (Ars wb9 wb9.heap.size v' (insA l ⟨fr, pg, w0, kd, fl, ofs⟩) ∧ NewB w.heap.size v') ∧ Below w.heap.size w wb9 from by
          refine ⟨_, rfl, ⟨?_, newB_own lb9 HBW.out.size⟩, HBW.out.trans (BB9.out.mono HBW.out.size)⟩
          refine Gs.of_own (l := insA l ⟨fr, pg, w0, kd, fl, ofs⟩) (by rw [HCUT.out, flatA_append, flatA_append]; exact lb9) (by rw [HCUT.out, List.length_append, List.length_append, List.length_take, List.length_drop, HN.out]; simp <;> omega))
        clear rb2 rb8 rb9 bb2 bb8 lb8 lb9 gb9
        obtain ⟨vc2, wc2, vc8, wc8, rc2, rc8, bc2, bc8, lc8⟩ := app_c (P := Try.prog) (wr := wr) 26 26 26 23 iP (.agg (arL ar0).toArray) 6 48 Try.underlying26 HIP.out HP0.out HP1.out HP2.out rfl (by decide) _ _ HQ1.out HQ2.out _ HT1.out [Value.int .i64 fr, .int .i64 pg, .bool w0, .int .i64 kd, .int .i64 fl, .int .i64 ofs] HU.out HU1.out
        obtain ⟨vc9, wc9, rc9, lc9, gc9⟩ := run_app (P := Try.prog) wr.heap.size 26 26 23 iP (.agg (arL ar0).toArray) 6 48 Try.underlying26 HIP.out HP0.out HP1.out HP2.out rfl (by decide) _ _ _ lc8 _ _ _ (HT2.out _ bc8) (by unfold maxLen; omega) (by omega) bc8.size
        have BC2 := Lib.hid bc2
        have BC8 := Lib.hid bc8
        have BC9 := Lib.hid (bc8.trans (own_below lc8 gc9 bc8.size))
        have RC2 := Lib.hid rc2
        have RC8 := Lib.hid rc8
        have RC9 := Lib.hid rc9
        have LC9 := Lib.hid (show ∃ v', Ending.returned vc9 = Ending.returned v' ∧ (Ars wc9 wc9.heap.size v' (insA l ⟨fr, pg, w0, kd, fl, ofs⟩) ∧ NewB w.heap.size v') ∧ Below w.heap.size w wc9 from by
          refine ⟨_, rfl, ⟨?_, newB_own lc9 HBW.out.size⟩, HBW.out.trans (BC9.out.mono HBW.out.size)⟩
          refine Gs.of_own (l := insA l ⟨fr, pg, w0, kd, fl, ofs⟩) (by rw [HCUT.out, flatA_append, flatA_append]; exact lc9) (by rw [HCUT.out, List.length_append, List.length_append, List.length_take, List.length_drop, HN.out]; simp <;> omega))
        clear rc2 rc8 rc9 bc2 bc8 lc8 lc9 gc9
        have HCL := Lib.hid (show ∀ w', Below wr.heap.size wr w' → (w'.cell? ⟨g3, 0, none⟩ = some (.int .i64 fr) ∧ w'.cell? ⟨g3, 1, none⟩ = some (.int .i64 pg) ∧ w'.cell? ⟨g3, 2, none⟩ = some (.bool w0) ∧ w'.cell? ⟨g3, 3, none⟩ = some (.int .i64 kd) ∧ w'.cell? ⟨g3, 4, none⟩ = some (.int .i64 fl) ∧ w'.cell? ⟨g3, 5, none⟩ = some (.int .i64 ofs)) ∧ Below wr.heap.size wr w' from fun w' hw' => ⟨⟨(HKW.out.below hw' HKW.out.lt).cell 0, (HKW.out.below hw' HKW.out.lt).cell 1, (HKW.out.below hw' HKW.out.lt).cell 2, (HKW.out.below hw' HKW.out.lt).cell 3, (HKW.out.below hw' HKW.out.lt).cell 4, (HKW.out.below hw' HKW.out.lt).cell 5⟩, hw'⟩)
        have BR := Lib.hid (Below.refl wr.heap.size wr)
        have BS := Lib.hid (Nat.le_refl wr.heap.size)
        clear hiP hp0 hp1 hp2
        go_region_held3 (fun w' => (w'.cell? ⟨g3, 0, none⟩ = some (.int .i64 fr) ∧ w'.cell? ⟨g3, 1, none⟩ = some (.int .i64 pg) ∧ w'.cell? ⟨g3, 2, none⟩ = some (.bool w0) ∧ w'.cell? ⟨g3, 3, none⟩ = some (.int .i64 kd) ∧ w'.cell? ⟨g3, 4, none⟩ = some (.int .i64 fl) ∧ w'.cell? ⟨g3, 5, none⟩ = some (.int .i64 ofs)) ∧ Below wr.heap.size wr w')
          (first
            | assumption
            | exact HCL.out _ BR.out.drew
            | exact HCL.out _ (BR.out.alloc BS.out _).drew
            | exact HCL.out _ ((BR.out.alloc BS.out _).alloc (by simp) _).drew
            | exact HCL.out _ BA2.out
            | exact HCL.out _ BB2.out
            | exact HCL.out _ BC2.out
            | exact HCL.out _ (BA2.out.alloc BA2.out.size _)
            | exact HCL.out _ BA8.out
            | exact HCL.out _ BB8.out
            | exact HCL.out _ BC8.out
            | exact HCL.out _ BA9.out
            | exact HCL.out _ BB9.out
            | exact HCL.out _ BC9.out)
          (first
            | (with_reducible refine step_append_run rfl (.tmp 22) (.tmp 25) 26 rfl (.slice (some ⟨wr.heap.size, 0, none⟩) 0 0) (.slice A k k) rfl rfl _ _ RA2.out ?_)
            | (with_reducible refine step_append_run rfl (.tmp 22) (.tmp 25) 26 rfl (.slice (some ⟨wr.heap.size, 0, none⟩) 0 0) (.slice A k k) rfl rfl _ _ RB2.out ?_)
            | (with_reducible refine step_append_run rfl (.tmp 22) (.tmp 25) 26 rfl (.slice (some ⟨wr.heap.size + 1, 0, none⟩) 0 0) (.slice A k k) rfl rfl _ _ RC2.out ?_)
            | (with_reducible refine step_append_run rfl (.tmp 26) (.tmp 28) 26 rfl va2 (.slice (some ⟨wa2.heap.size, 0, none⟩) 1 1) rfl rfl _ _ RA8.out ?_)
            | (with_reducible refine step_append_run rfl (.tmp 26) (.tmp 28) 26 rfl vb2 (.slice (some ⟨wr.heap.size + 1, 0, none⟩) 1 1) rfl rfl _ _ RB8.out ?_)
            | (with_reducible refine step_append_run rfl (.tmp 26) (.tmp 28) 26 rfl vc2 (.slice (some ⟨wr.heap.size, 0, none⟩) 1 1) rfl rfl _ _ RC8.out ?_)
            | (with_reducible refine step_append_run rfl (.tmp 29) (.tmp 32) 26 rfl va8 (.slice A 0 0) rfl rfl _ _ RA9.out ?_)
            | (with_reducible refine step_append_run rfl (.tmp 29) (.tmp 32) 26 rfl vb8 (.slice A 0 0) rfl rfl _ _ RB9.out ?_)
            | (with_reducible refine step_append_run rfl (.tmp 29) (.tmp 32) 26 rfl vc8 (.slice A 0 0) rfl rfl _ _ RC9.out ?_))
        all_goals
          go_wp2
          go_ret
          first
            | exact LA9.out
            | exact LB9.out
            | exact LC9.out
      · obtain ⟨b, o, rfl⟩ := HSA.out (by omega)
        obtain ⟨c2, hc2⟩ : ∃ c2, c2 = c - k := ⟨_, rfl⟩
        have e2 : c - k = c2 := hc2.symm
        have e4 : (c : Int) - (k : Int) = (c2 : Int) := by omega
        have ea : c ≠ k := by omega
        have eb : k ≠ c := by omega
        have ec : ¬ ((c : Int) = (k : Int)) := by omega
        have eg : c ≠ 0 := by omega
        clear hc2
        go_wp2
        go_quiet (fail)
        obtain ⟨q1, rfl⟩ : ∃ q1, q1 = nq := ⟨_, rfl⟩
        go_wp2_with fail
        generalize hwr : (W1.drewN m).drewN q1 = wr
        have HBW := Lib.hid (show Below w.heap.size w wr from hwr ▸ below_drewN (below_drewN HB.out _) _)
        have HKW := Lib.hid (show Blk wr g3 23 #[Value.int .i64 fr, .int .i64 pg, .bool w0, .int .i64 kd, .int .i64 fl, .int .i64 ofs] from hwr ▸ HK.out)
        clear hwr k0 k1 k2 k3 k4 k5
        obtain ⟨iP, hiP, hp0, hp1, hp2⟩ := info_parts Try.infoAreaT
        have HIP := Lib.hid hiP
        have HP0 := Lib.hid hp0
        have HP1 := Lib.hid hp1
        have HP2 := Lib.hid hp2
        have HPW := Lib.hid (HP.out.fresh HBW.out)
        have HT1 := Lib.hid (fun (W : World) (hW : Below wr.heap.size wr W) => (HPW.out.below hW).take_ k (by omega))
        have HT2 := Lib.hid (fun (W : World) (hW : Below wr.heap.size wr W) => ((by rw [HD0.out]; exact rdZero _ _ _ _) : Rd W 6 (.slice (some ⟨b, o + k * 6, none⟩) 0 c2) 0 (flatA (l.drop k))))
        have HU := Lib.hid (show ([Value.int .i64 fr, .int .i64 pg, .bool w0, .int .i64 kd, .int .i64 fl, .int .i64 ofs]).length = 6 from rfl)
        have HU1 := Lib.hid (show ∀ u ∈ [Value.int .i64 fr, .int .i64 pg, .bool w0, .int .i64 kd, .int .i64 fl, .int .i64 ofs], u.oneCell' = true from flatA_one [⟨fr, pg, w0, kd, fl, ofs⟩])
        have HQ1 := Lib.hid (show k + 1 ≤ maxLen from by unfold maxLen; omega)
        have HQ2 := Lib.hid (show (k + 1) * 48 ≤ 140737488355328 from by omega)
        have HCUT := Lib.hid (show insA l ⟨fr, pg, w0, kd, fl, ofs⟩ = l.take k ++ [⟨fr, pg, w0, kd, fl, ofs⟩] ++ l.drop k from by unfold insA; simp only; rw [HE.out])
        obtain ⟨va2, wa2, va8, wa8, ra2, ra8, ba2, ba8, la8⟩ := app_a (P := Try.prog) (wr := wr) 26 26 26 23 iP (.agg (arL ar0).toArray) 6 48 Try.underlying26 HIP.out HP0.out HP1.out HP2.out rfl (by decide) _ _ HQ1.out HQ2.out _ HT1.out [Value.int .i64 fr, .int .i64 pg, .bool w0, .int .i64 kd, .int .i64 fl, .int .i64 ofs] HU.out HU1.out
        obtain ⟨va9, wa9, ra9, la9, ga9⟩ := run_app (P := Try.prog) wr.heap.size 26 26 23 iP (.agg (arL ar0).toArray) 6 48 Try.underlying26 HIP.out HP0.out HP1.out HP2.out rfl (by decide) _ _ _ la8 _ _ _ (HT2.out _ ba8) (by unfold maxLen; omega) (by omega) ba8.size
        have BA2 := Lib.hid ba2
        have BA8 := Lib.hid ba8
        have BA9 := Lib.hid (ba8.trans (own_below la8 ga9 ba8.size))
        have RA2 := Lib.hid ra2
        have RA8 := Lib.hid ra8
        have RA9 := Lib.hid ra9
        have LA9 := Lib.hid (show ∃ v', Ending.returned va9 = Ending.returned v' ∧ (Ars wa9 wa9.heap.size v' (insA l ⟨fr, pg, w0, kd, fl, ofs⟩) ∧ NewB w.heap.size v') ∧ Below w.heap.size w wa9 from by
          refine ⟨_, rfl, ⟨?_, newB_own la9 HBW.out.size⟩, HBW.out.trans (BA9.out.mono HBW.out.size)⟩
          refine Gs.of_own (l := insA l ⟨fr, pg, w0, kd, fl, ofs⟩) (by rw [HCUT.out, flatA_append, flatA_append]; exact la9) (by rw [HCUT.out, List.length_append, List.length_append, List.length_take, List.length_drop, HN.out]; simp <;> omega))
        clear ra2 ra8 ra9 ba2 ba8 la8 la9 ga9
        obtain ⟨vb2, wb2, vb8, wb8, rb2, rb8, bb2, bb8, lb8⟩ := app_b (P := Try.prog) (wr := wr) 26 26 26 23 iP (.agg (arL ar0).toArray) 6 48 Try.underlying26 HIP.out HP0.out HP1.out HP2.out rfl (by decide) _ _ HQ1.out HQ2.out _ HT1.out [Value.int .i64 fr, .int .i64 pg, .bool w0, .int .i64 kd, .int .i64 fl, .int .i64 ofs] HU.out HU1.out
        obtain ⟨vb9, wb9, rb9, lb9, gb9⟩ := run_app (P := Try.prog) wr.heap.size 26 26 23 iP (.agg (arL ar0).toArray) 6 48 Try.underlying26 HIP.out HP0.out HP1.out HP2.out rfl (by decide) _ _ _ lb8 _ _ _ (HT2.out _ bb8) (by unfold maxLen; omega) (by omega) bb8.size
        have BB2 := Lib.hid bb2
        have BB8 := Lib.hid bb8
        have BB9 := Lib.hid (bb8.trans (own_below lb8 gb9 bb8.size))
        have RB2 := Lib.hid rb2
        have RB8 := Lib.hid rb8
        have RB9 := Lib.hid rb9
        have LB9 := Lib.hid (show ∃ v', Ending.returned vb9 = Ending.returned v' ∧ (Ars wb9 wb9.heap.size v' (insA l ⟨fr, pg, w0, kd, fl, ofs⟩) ∧ NewB w.heap.size v') ∧ Below w.heap.size w wb9 from by
          refine ⟨_, rfl, ⟨?_, newB_own lb9 HBW.out.size⟩, HBW.out.trans (BB9.out.mono HBW.out.size)⟩
          refine Gs.of_own (l := insA l ⟨fr, pg, w0, kd, fl, ofs⟩) (by rw [HCUT.out, flatA_append, flatA_append]; exact lb9) (by rw [HCUT.out, List.length_append, List.length_append, List.length_take, List.length_drop, HN.out]; simp <;> omega))
        clear rb2 rb8 rb9 bb2 bb8 lb8 lb9 gb9
        obtain ⟨vc2, wc2, vc8, wc8, rc2, rc8, bc2, bc8, lc8⟩ := app_c (P := Try.prog) (wr := wr) 26 26 26 23 iP (.agg (arL ar0).toArray) 6 48 Try.underlying26 HIP.out HP0.out HP1.out HP2.out rfl (by decide) _ _ HQ1.out HQ2.out _ HT1.out [Value.int .i64 fr, .int .i64 pg, .bool w0, .int .i64 kd, .int .i64 fl, .int .i64 ofs] HU.out HU1.out
        obtain ⟨vc9, wc9, rc9, lc9, gc9⟩ := run_app (P := Try.prog) wr.heap.size 26 26 23 iP (.agg (arL ar0).toArray) 6 48 Try.underlying26 HIP.out HP0.out HP1.out HP2.out rfl (by decide) _ _ _ lc8 _ _ _ (HT2.out _ bc8) (by unfold maxLen; omega) (by omega) bc8.size
        have BC2 := Lib.hid bc2
        have BC8 := Lib.hid bc8
        have BC9 := Lib.hid (bc8.trans (own_below lc8 gc9 bc8.size))
        have RC2 := Lib.hid rc2
        have RC8 := Lib.hid rc8
        have RC9 := Lib.hid rc9
        have LC9 := Lib.hid (show ∃ v', Ending.returned vc9 = Ending.returned v' ∧ (Ars wc9 wc9.heap.size v' (insA l ⟨fr, pg, w0, kd, fl, ofs⟩) ∧ NewB w.heap.size v') ∧ Below w.heap.size w wc9 from by
          refine ⟨_, rfl, ⟨?_, newB_own lc9 HBW.out.size⟩, HBW.out.trans (BC9.out.mono HBW.out.size)⟩
          refine Gs.of_own (l := insA l ⟨fr, pg, w0, kd, fl, ofs⟩) (by rw [HCUT.out, flatA_append, flatA_append]; exact lc9) (by rw [HCUT.out, List.length_append, List.length_append, List.length_take, List.length_drop, HN.out]; simp <;> omega))
        clear rc2 rc8 rc9 bc2 bc8 lc8 lc9 gc9
        have HCL := Lib.hid (show ∀ w', Below wr.heap.size wr w' → (w'.cell? ⟨g3, 0, none⟩ = some (.int .i64 fr) ∧ w'.cell? ⟨g3, 1, none⟩ = some (.int .i64 pg) ∧ w'.cell? ⟨g3, 2, none⟩ = some (.bool w0) ∧ w'.cell? ⟨g3, 3, none⟩ = some (.int .i64 kd) ∧ w'.cell? ⟨g3, 4, none⟩ = some (.int .i64 fl) ∧ w'.cell? ⟨g3, 5, none⟩ = some (.int .i64 ofs)) ∧ Below wr.heap.size wr w' from fun w' hw' => ⟨⟨(HKW.out.below hw' HKW.out.lt).cell 0, (HKW.out.below hw' HKW.out.lt).cell 1, (HKW.out.below hw' HKW.out.lt).cell 2, (HKW.out.below hw' HKW.out.lt).cell 3, (HKW.out.below hw' HKW.out.lt).cell 4, (HKW.out.below hw' HKW.out.lt).cell 5⟩, hw'⟩)
        have BR := Lib.hid (Below.refl wr.heap.size wr)
        have BS := Lib.hid (Nat.le_refl wr.heap.size)
        clear hiP hp0 hp1 hp2
        go_region_held3 (fun w' => (w'.cell? ⟨g3, 0, none⟩ = some (.int .i64 fr) ∧ w'.cell? ⟨g3, 1, none⟩ = some (.int .i64 pg) ∧ w'.cell? ⟨g3, 2, none⟩ = some (.bool w0) ∧ w'.cell? ⟨g3, 3, none⟩ = some (.int .i64 kd) ∧ w'.cell? ⟨g3, 4, none⟩ = some (.int .i64 fl) ∧ w'.cell? ⟨g3, 5, none⟩ = some (.int .i64 ofs)) ∧ Below wr.heap.size wr w')
          (first
            | assumption
            | exact HCL.out _ BR.out.drew
            | exact HCL.out _ (BR.out.alloc BS.out _).drew
            | exact HCL.out _ ((BR.out.alloc BS.out _).alloc (by simp) _).drew
            | exact HCL.out _ BA2.out
            | exact HCL.out _ BB2.out
            | exact HCL.out _ BC2.out
            | exact HCL.out _ (BA2.out.alloc BA2.out.size _)
            | exact HCL.out _ BA8.out
            | exact HCL.out _ BB8.out
            | exact HCL.out _ BC8.out
            | exact HCL.out _ BA9.out
            | exact HCL.out _ BB9.out
            | exact HCL.out _ BC9.out)
          (first
            | (with_reducible refine step_append_run rfl (.tmp 22) (.tmp 25) 26 rfl (.slice (some ⟨wr.heap.size, 0, none⟩) 0 0) (.slice (some ⟨b, o, none⟩) k c) rfl rfl _ _ RA2.out ?_)
            | (with_reducible refine step_append_run rfl (.tmp 22) (.tmp 25) 26 rfl (.slice (some ⟨wr.heap.size, 0, none⟩) 0 0) (.slice (some ⟨b, o, none⟩) k c) rfl rfl _ _ RB2.out ?_)
            | (with_reducible refine step_append_run rfl (.tmp 22) (.tmp 25) 26 rfl (.slice (some ⟨wr.heap.size + 1, 0, none⟩) 0 0) (.slice (some ⟨b, o, none⟩) k c) rfl rfl _ _ RC2.out ?_)
            | (with_reducible refine step_append_run rfl (.tmp 26) (.tmp 28) 26 rfl va2 (.slice (some ⟨wa2.heap.size, 0, none⟩) 1 1) rfl rfl _ _ RA8.out ?_)
            | (with_reducible refine step_append_run rfl (.tmp 26) (.tmp 28) 26 rfl vb2 (.slice (some ⟨wr.heap.size + 1, 0, none⟩) 1 1) rfl rfl _ _ RB8.out ?_)
            | (with_reducible refine step_append_run rfl (.tmp 26) (.tmp 28) 26 rfl vc2 (.slice (some ⟨wr.heap.size, 0, none⟩) 1 1) rfl rfl _ _ RC8.out ?_)
            | (with_reducible refine step_append_run rfl (.tmp 29) (.tmp 32) 26 rfl va8 (.slice (some ⟨b, o + k * 6, none⟩) 0 c2) rfl rfl _ _ RA9.out ?_)
            | (with_reducible refine step_append_run rfl (.tmp 29) (.tmp 32) 26 rfl vb8 (.slice (some ⟨b, o + k * 6, none⟩) 0 c2) rfl rfl _ _ RB9.out ?_)
            | (with_reducible refine step_append_run rfl (.tmp 29) (.tmp 32) 26 rfl vc8 (.slice (some ⟨b, o + k * 6, none⟩) 0 c2) rfl rfl _ _ RC9.out ?_))
        all_goals
          go_wp2
          go_ret
          first
            | exact LA9.out
            | exact LB9.out
            | exact LC9.out
end Go.Proofs.Ytpkgmmfnlifocaa
