/-
  The document's own Places, Put and Out.
  Conditions: the places are read in memory.
-/
import Derived.Test.YthfcmfhmaokioaaBkM
import Derived.Test.YthfcmfhmaokioaaInts
import Derived.BigQuiet
import Derived.Deep.QuietTactic
import Derived.Deep.RegionHeld3
import Derived.Deep.LoopGhost
namespace Go.Proofs.Ythfcmfhmaokioaa
open Go.RowKit
set_option linter.unusedVariables false

theorem plsL_of_getD {xs ys : List Pl} (hl : xs.length = ys.length) (h : ∀ j, j < xs.length → xs.getD j pl0 = ys.getD j pl0) : xs = ys := by
  apply List.ext_getElem hl
  intro j h1 h2
  have := h j h1
  simpa [h1, h2] using this
set_option maxRecDepth 20000 in
set_option maxHeartbeats 800000 in
theorem refPlaces_any (v v' : Value) (xs ys : List Pl) (B B' : Nat) (w : World) (h : Pls w B v xs) (h' : Pls w B' v' ys) :
    Calls Try.prog 14 #[v, v'] w fun e w' => e = .returned (.bool (decide (xs = ys))) ∧ Drew w w' := by
  obtain ⟨A, l, c, rfl, hl, hlc, hm, _, hx⟩ := h
  obtain ⟨A', l', c', rfl, hl', hlc', hm', _, hx'⟩ := h'
  have HX := Lib.hid hx
  have HX' := Lib.hid hx'
  have HL := Lib.hid hl
  have HL' := Lib.hid hl'
  unfold maxLen at hm
  clear hl hl' hm' hx hx' hlc'
  by_cases hll : l = l'
  · subst hll
    have d0 : ((l : Int) != (l : Int)) = false := by simp
    go_enter Try.func14, Try.ntmps14
    go_wp2
    go_loopw [5] (fun i wr => ∃ k m : Nat, k ≤ l ∧ i = .int .i64 k ∧ wr = w.drewN m ∧ ∀ j, j < k → xs.getD j pl0 = ys.getD j pl0) (fun i _ => l - (intOf i).toNat)
    case atStart => exact ⟨0, 0, Nat.zero_le _, rfl, rfl, fun j hj => absurd hj (by omega)⟩
    case round =>
      obtain ⟨k, m, hk, rfl, rfl, he⟩ := hrel
      have HE := Lib.hid he
      clear he
      by_cases hlt : k < l
      · obtain ⟨b, off, rfl, _, hc⟩ := HX.out (by omega)
        obtain ⟨b', off', rfl, _, hc'⟩ := HX'.out (by omega)
        obtain ⟨hc1, hc2⟩ := hc k hlt
        obtain ⟨hc1', hc2'⟩ := hc' k hlt
        obtain ⟨⟨y1, y2⟩, hy⟩ : ∃ y, y = xs.getD k pl0 := ⟨_, rfl⟩
        obtain ⟨⟨z1, z2⟩, hz⟩ : ∃ z, z = ys.getD k pl0 := ⟨_, rfl⟩
        rw [← hy] at hc1 hc2
        rw [← hz] at hc1' hc2'
        have HY := Lib.hid hy
        have HZ := Lib.hid hz
        clear hc hc' hy hz
        by_cases c1 : y1 = z1 ∧ y2 = z2
        · obtain ⟨rfl, rfl⟩ := c1
          go_wp2
          go_quiet (fail)
          go_wp2
          go_roundw
          case rel =>
            refine ⟨k + 1, m + nq, by omega, by go_num, rfl, fun j hj => ?_⟩
            by_cases e : j = k
            · subst e
              rw [← HY.out, ← HZ.out]
            · exact HE.out j (by omega)
          case measure => simp [intOf]; omega
        · have HN := Lib.hid (show xs ≠ ys from fun e => c1 (by have h1 := HY.out; rw [e, ← HZ.out] at h1; injection h1 with h1 h2; exact ⟨h1, h2⟩))
          by_cases c2 : y1 = z1
          · subst c2
            have c3 : y2 ≠ z2 := fun e => c1 ⟨rfl, e⟩
            have d2 : (y2 == z2) = false := by simp [c3]
            have d3 : (y2 != z2) = true := by simp [c3]
            clear c1
            go_wp2
            go_quiet (fail)
            go_wp2
            go_ret
            exact ⟨by rw [decide_eq_false HN.out]; rfl, drew_tr ⟨m, rfl⟩ ⟨nq, rfl⟩⟩
          · have d2 : (y1 == z1) = false := by simp [c2]
            have d3 : (y1 != z1) = true := by simp [c2]
            clear c1
            go_wp2
            go_quiet (fail)
            go_wp2
            go_ret
            exact ⟨by rw [decide_eq_false HN.out]; rfl, drew_tr ⟨m, rfl⟩ ⟨nq, rfl⟩⟩
      · obtain rfl : k = l := by omega
        go_wp2
        go_ret
        exact ⟨by rw [decide_eq_true (plsL_of_getD (by rw [HL.out, HL'.out]) (by rw [HL.out]; exact HE.out))]; rfl, m, rfl⟩
  · have d0 : ((l : Int) != (l' : Int)) = true := by rw [bne_iff_ne]; omega
    go_enter Try.func14, Try.ntmps14
    go_wp2
    go_ret
    exact ⟨by rw [decide_eq_false (fun e => hll (by rw [← HL.out, ← HL'.out, e]))]; rfl, 0, rfl⟩
theorem Try.infoPlT : (Try.prog.info? 29).map (fun i => (i.zero, i.size, i.bytes)) = some (some (.agg (plV pl0)), 2, 16) := by kernel_rfl
/-- An address is none, or that of a cell. -/
def Shp (v : Value) : Prop := ∃ A n c, v = .slice A n c ∧ (A = none ∨ ∃ b o, A = some ⟨b, o, none⟩)
theorem Shp.own {w : World} {base size n : Nat} {e : TypeId} {v : Value} {xs : List Value} (h : w.ownsRow base e size v n xs) : Shp v := by
  rcases h.2 with ⟨rfl, _⟩ | ⟨g, cap, cur, rfl, _⟩
  · exact ⟨_, _, _, rfl, .inl rfl⟩
  · exact ⟨_, _, _, rfl, .inr ⟨_, _, rfl⟩⟩
set_option maxRecDepth 20000 in
set_option maxHeartbeats 6400000 in
theorem refPut_any (v : Value) (l : List Pl) (p : Pl) (w : World) (h : Pls w w.heap.size v l) (hs : Shp v) (hm : l.length ≤ 100000) :
    Calls Try.prog 11 #[v, .agg #[.int .i64 p.c, .int .i64 p.g]] w fun e w' => ∃ v', e = .returned v' ∧ (Pls w' w'.heap.size v' (putP l p) ∧ Shp v' ∧ OldNew w v v') ∧ Below w.heap.size w w' := by
  obtain ⟨pc, pg⟩ := p
  have HP := Lib.hid h
  obtain ⟨A, n, c, rfl, hn, hnc, hc, hA0, hx⟩ := h
  have HSH := Lib.hid hs
  obtain ⟨A', n', c', e', hsA⟩ := hs
  injection e' with e1 e2 e3
  subst e1 e2 e3
  have HSA := Lib.hid hsA
  have HA0 := Lib.hid hA0
  clear hsA hA0
  have HX := Lib.hid hx
  have HN := Lib.hid hn
  have hn1 : n ≤ 100000 := by omega
  unfold maxLen at hc
  have HB := Lib.hid (belAl (Below.refl w.heap.size w) (.cells #[.int .i64 pc, .int .i64 pg] 29))
  have HK := Lib.hid (Blk.new w 29 #[.int .i64 pc, .int .i64 pg])
  obtain ⟨g3, hg3⟩ : ∃ g3, g3 = w.heap.size := ⟨_, rfl⟩
  clear hn hx hm
  go_enter Try.func11, Try.ntmps11
  go_wp2_with fail
  obtain ⟨W1, hW1⟩ : ∃ W1, W1 = w.alloc (.cells #[.int .i64 pc, .int .i64 pg] 29) := ⟨_, rfl⟩
  rw [← hW1] at HB HK ⊢
  rw [← hg3] at HK ⊢
  have HG := Lib.hid hg3
  clear hW1 hg3
  go_loopg [5] (n - 0) (fun gg s5 wx => ∃ k m : Nat, k + gg = n ∧ s5 = .int .i64 (k : Int) ∧ wx = W1.drewN m ∧ k ≤ posP l ⟨pc, pg⟩)
  case atStart => exact ⟨0, 0, by omega, rfl, rfl, Nat.zero_le _⟩
  case round =>
    obtain ⟨k, m, hk, rfl, rfl, hpos⟩ := hrel
    have HPOS := Lib.hid hpos
    have k0 := HK.out.cell 0
    have k1 := HK.out.cell 1
    clear hpos
    by_cases hlt : k < n
    · obtain ⟨b, o, rfl, hb, hce⟩ := HX.out (by omega)
      obtain ⟨d0, d1⟩ := hce k hlt
      obtain ⟨⟨x1, x2⟩, hxx⟩ : ∃ x, x = l.getD k pl0 := ⟨_, rfl⟩
      rw [← hxx] at d0 d1
      have HXX := Lib.hid (show l[k]? = some ⟨x1, x2⟩ from by
        rw [List.getElem?_eq_getElem (by have := HN.out; omega), hxx, List.getD_eq_getElem?_getD, List.getElem?_eq_getElem (by have := HN.out; omega)]
        rfl)
      replace d0 : W1.cell? ⟨b, o + k * 2, none⟩ = some (.int .i64 x1) := (HB.out.cell (p := ⟨b, o + k * 2, none⟩) hb).trans d0
      replace d1 : W1.cell? ⟨b, o + k * 2 + 1, none⟩ = some (.int .i64 x2) := (HB.out.cell (p := ⟨b, o + k * 2 + 1, none⟩) hb).trans d1
      clear hce hxx
      have u0 : decide ((k : Int) < (n : Int)) = true := decide_eq_true (by omega)
      by_cases hl : ltP ⟨x1, x2⟩ ⟨pc, pg⟩
      · have HNX := Lib.hid (show k + 1 ≤ posP l ⟨pc, pg⟩ from by
          rcases Nat.lt_or_ge k (posP l ⟨pc, pg⟩) with h | h
          · exact h
          · have : posP l ⟨pc, pg⟩ = k := Nat.le_antisymm h HPOS.out
            exact absurd hl (posP_at (by rw [this]; exact HXX.out)))
        by_cases c1 : x1 < pc
        · have u1 : decide (x1 < pc) = true := decide_eq_true c1
          go_wp2
          go_quiet (fail)
          go_wp2
          go_roundg (n - (k + 1))
          case measure => omega
          case rel => exact ⟨k + 1, m + nq, by omega, by go_num, rfl, HNX.out⟩
        · have u1 : decide (x1 < pc) = false := decide_eq_false c1
          have c2 : x1 = pc ∧ x2 < pg := by rcases hl with h | h; exact absurd h c1; exact h
          obtain ⟨rfl, c3⟩ := c2
          have u2 : decide (x2 < pg) = true := decide_eq_true c3
          clear hl
          go_wp2
          go_quiet (fail)
          go_wp2
          go_roundg (n - (k + 1))
          case measure => omega
          case rel => exact ⟨k + 1, m + nq, by omega, by go_num, rfl, HNX.out⟩
      · have HE := Lib.hid (show posP l ⟨pc, pg⟩ = k from by
          rcases Nat.lt_or_ge k (posP l ⟨pc, pg⟩) with h | h
          · obtain ⟨y, e1, e2⟩ := posP_lt h
            rw [HXX.out] at e1
            injection e1 with e1
            exact absurd (e1 ▸ e2) hl
          · exact Nat.le_antisymm h HPOS.out)
        have c1 : ¬ x1 < pc := fun h => hl (.inl h)
        have u1 : decide (x1 < pc) = false := decide_eq_false c1
        by_cases c2 : x1 = pc
        · subst c2
          have c3 : ¬ x2 < pg := fun h => hl (.inr ⟨rfl, h⟩)
          have u2 : decide (x2 < pg) = false := decide_eq_false c3
          clear hl c1
          by_cases c4 : x2 = pg
          · subst c4
            clear c3
            go_wp2
            go_quiet (fail)
            go_wp2
            go_quiet (fail)
            go_wp2
            go_ret
            refine ⟨_, rfl, ⟨?_, HSH.out, .inl rfl⟩, below_drewN (below_drewN (below_drewN HB.out _) _) _⟩
            rw [putP_there (by rw [HE.out]; exact HXX.out)]
            exact HP.out.fresh (below_drewN (below_drewN (below_drewN HB.out _) _) _)
          · have u3 : (x2 == pg) = false := by simp [c4]
            go_wp2
            go_quiet (fail)
            obtain ⟨q1, rfl⟩ : ∃ q1, q1 = nq := ⟨_, rfl⟩
            go_wp2
            go_quiet (fail)
            obtain ⟨q2, rfl⟩ : ∃ q2, q2 = nq := ⟨_, rfl⟩
            have HNE := Lib.hid (show l[k]? ≠ some ⟨x1, pg⟩ from fun e => c4 (by rw [HXX.out] at e; injection e with e; injection e))
            obtain ⟨r, hr⟩ : ∃ r, r = n - k := ⟨_, rfl⟩
            obtain ⟨c2, hc2⟩ : ∃ c2, c2 = c - k := ⟨_, rfl⟩
            have e1 : n - k = r := hr.symm
            have e2 : c - k = c2 := hc2.symm
            have e3 : (n : Int) - (k : Int) = (r : Int) := by omega
            have e4 : (c : Int) - (k : Int) = (c2 : Int) := by omega
            have e5 : k + r = n := by omega
            clear hr hc2
            have e6 : (0 : Int) ≤ (k : Int) := by omega
            have e7 : (k : Int) ≤ (n : Int) := by omega
            have e8 : (k : Int) ≤ (c : Int) := by omega
            have e9 : (n : Int) ≤ (c : Int) := by omega
            have ea : c ≠ k := by omega
            have eb : k ≠ c := by omega
            have ec : ¬ ((c : Int) = (k : Int)) := by omega
            have ed : k ≤ c := by omega
            have ee : k ≤ n := by omega
            go_wp2_with fail
            generalize hwr : ((W1.drewN m).drewN q1).drewN q2 = wr
            have HBW := Lib.hid (show Below w.heap.size w wr from hwr ▸ below_drewN (below_drewN (below_drewN HB.out _) _) _)
            have HKW := Lib.hid (show Blk wr g3 29 #[.int .i64 x1, .int .i64 pg] from hwr ▸ HK.out)
            clear hwr k0 k1
            obtain ⟨iP, hiP, hp0, hp1, hp2⟩ := info_parts Try.infoPlT
            have HIP := Lib.hid hiP
            have HP0 := Lib.hid hp0
            have HP1 := Lib.hid hp1
            have HP2 := Lib.hid hp2
            have HPW := Lib.hid (HP.out.fresh HBW.out)
            have HT1 := Lib.hid (fun (W : World) (hW : Below wr.heap.size wr W) => (HPW.out.below hW).take k (by omega))
            have HT2 := Lib.hid (fun (W : World) (hW : Below wr.heap.size wr W) => ((HPW.out.below hW).drop k r e5 c2 : Rd W 2 (.slice (some ⟨b, o + k * 2, none⟩) r c2) r (flatP (l.drop k))))
            have HU := Lib.hid (show ([Value.int .i64 x1, Value.int .i64 pg]).length = 2 from rfl)
            have HU1 := Lib.hid (show ∀ u ∈ [Value.int .i64 x1, Value.int .i64 pg], u.oneCell' = true from flatP_one [⟨x1, pg⟩])
            have HQ1 := Lib.hid (show k + 1 ≤ maxLen from by unfold maxLen; omega)
            have HQ2 := Lib.hid (show (k + 1) * 16 ≤ 140737488355328 from by omega)
            have HCUT := Lib.hid (show putP l ⟨x1, pg⟩ = l.take k ++ [⟨x1, pg⟩] ++ l.drop k from by
              have := putP_cut (l := l) (p := ⟨x1, pg⟩) (by rw [HE.out]; exact HNE.out)
              rw [HE.out] at this
              exact this)
            obtain ⟨va2, wa2, va8, wa8, ra2, ra8, ba2, ba8, la8⟩ := app_a (P := Try.prog) (wr := wr) 26 26 26 29 iP (.agg (plV pl0)) 2 16 Try.underlying26 HIP.out HP0.out HP1.out HP2.out rfl (by decide) _ _ HQ1.out HQ2.out _ HT1.out [.int .i64 x1, .int .i64 pg] HU.out HU1.out
            obtain ⟨va9, wa9, ra9, la9, ga9⟩ := run_app (P := Try.prog) wr.heap.size 26 26 29 iP (.agg (plV pl0)) 2 16 Try.underlying26 HIP.out HP0.out HP1.out HP2.out rfl (by decide) _ _ _ la8 _ _ _ (HT2.out _ ba8) (by unfold maxLen; omega) (by omega) ba8.size
            have BA2 := Lib.hid ba2
            have BA8 := Lib.hid ba8
            have BA9 := Lib.hid (ba8.trans (own_below la8 ga9 ba8.size))
            have RA2 := Lib.hid ra2
            have RA8 := Lib.hid ra8
            have RA9 := Lib.hid ra9
            have LA9 := Lib.hid (show ∃ v', Ending.returned va9 = Ending.returned v' ∧ (Pls wa9 wa9.heap.size v' (putP l ⟨x1, pg⟩) ∧ Shp v' ∧ OldNew w (.slice (some ⟨b, o, none⟩) n c) v') ∧ Below w.heap.size w wa9 from by
              refine ⟨_, rfl, ⟨?_, Shp.own la9, .inr (own_new la9 HBW.out.size)⟩, HBW.out.trans (BA9.out.mono HBW.out.size)⟩
              refine Pls.of_own (l := putP l ⟨x1, pg⟩) (by rw [HCUT.out, flatP_append, flatP_append]; exact la9) (by rw [HCUT.out, List.length_append, List.length_append, List.length_take, List.length_drop, HN.out]; simp <;> omega))
            clear ra2 ra8 ra9 ba2 ba8 la8 la9 ga9
            obtain ⟨vb2, wb2, vb8, wb8, rb2, rb8, bb2, bb8, lb8⟩ := app_b (P := Try.prog) (wr := wr) 26 26 26 29 iP (.agg (plV pl0)) 2 16 Try.underlying26 HIP.out HP0.out HP1.out HP2.out rfl (by decide) _ _ HQ1.out HQ2.out _ HT1.out [.int .i64 x1, .int .i64 pg] HU.out HU1.out
            obtain ⟨vb9, wb9, rb9, lb9, gb9⟩ := run_app (P := Try.prog) wr.heap.size 26 26 29 iP (.agg (plV pl0)) 2 16 Try.underlying26 HIP.out HP0.out HP1.out HP2.out rfl (by decide) _ _ _ lb8 _ _ _ (HT2.out _ bb8) (by unfold maxLen; omega) (by omega) bb8.size
            have BB2 := Lib.hid bb2
            have BB8 := Lib.hid bb8
            have BB9 := Lib.hid (bb8.trans (own_below lb8 gb9 bb8.size))
            have RB2 := Lib.hid rb2
            have RB8 := Lib.hid rb8
            have RB9 := Lib.hid rb9
            have LB9 := Lib.hid (show ∃ v', Ending.returned vb9 = Ending.returned v' ∧ (Pls wb9 wb9.heap.size v' (putP l ⟨x1, pg⟩) ∧ Shp v' ∧ OldNew w (.slice (some ⟨b, o, none⟩) n c) v') ∧ Below w.heap.size w wb9 from by
              refine ⟨_, rfl, ⟨?_, Shp.own lb9, .inr (own_new lb9 HBW.out.size)⟩, HBW.out.trans (BB9.out.mono HBW.out.size)⟩
              refine Pls.of_own (l := putP l ⟨x1, pg⟩) (by rw [HCUT.out, flatP_append, flatP_append]; exact lb9) (by rw [HCUT.out, List.length_append, List.length_append, List.length_take, List.length_drop, HN.out]; simp <;> omega))
            clear rb2 rb8 rb9 bb2 bb8 lb8 lb9 gb9
            obtain ⟨vc2, wc2, vc8, wc8, rc2, rc8, bc2, bc8, lc8⟩ := app_c (P := Try.prog) (wr := wr) 26 26 26 29 iP (.agg (plV pl0)) 2 16 Try.underlying26 HIP.out HP0.out HP1.out HP2.out rfl (by decide) _ _ HQ1.out HQ2.out _ HT1.out [.int .i64 x1, .int .i64 pg] HU.out HU1.out
            obtain ⟨vc9, wc9, rc9, lc9, gc9⟩ := run_app (P := Try.prog) wr.heap.size 26 26 29 iP (.agg (plV pl0)) 2 16 Try.underlying26 HIP.out HP0.out HP1.out HP2.out rfl (by decide) _ _ _ lc8 _ _ _ (HT2.out _ bc8) (by unfold maxLen; omega) (by omega) bc8.size
            have BC2 := Lib.hid bc2
            have BC8 := Lib.hid bc8
            have BC9 := Lib.hid (bc8.trans (own_below lc8 gc9 bc8.size))
            have RC2 := Lib.hid rc2
            have RC8 := Lib.hid rc8
            have RC9 := Lib.hid rc9
            have LC9 := Lib.hid (show ∃ v', Ending.returned vc9 = Ending.returned v' ∧ (Pls wc9 wc9.heap.size v' (putP l ⟨x1, pg⟩) ∧ Shp v' ∧ OldNew w (.slice (some ⟨b, o, none⟩) n c) v') ∧ Below w.heap.size w wc9 from by
              refine ⟨_, rfl, ⟨?_, Shp.own lc9, .inr (own_new lc9 HBW.out.size)⟩, HBW.out.trans (BC9.out.mono HBW.out.size)⟩
              refine Pls.of_own (l := putP l ⟨x1, pg⟩) (by rw [HCUT.out, flatP_append, flatP_append]; exact lc9) (by rw [HCUT.out, List.length_append, List.length_append, List.length_take, List.length_drop, HN.out]; simp <;> omega))
            clear rc2 rc8 rc9 bc2 bc8 lc8 lc9 gc9
            have HCL := Lib.hid (show ∀ w', Below wr.heap.size wr w' → w'.cell? ⟨g3, 0, none⟩ = some (.int .i64 x1) ∧ w'.cell? ⟨g3, 1, none⟩ = some (.int .i64 pg) ∧ Below wr.heap.size wr w' from fun w' hw' => ⟨(HKW.out.below hw' HKW.out.lt).cell 0, (HKW.out.below hw' HKW.out.lt).cell 1, hw'⟩)
            have BR := Lib.hid (Below.refl wr.heap.size wr)
            have BS := Lib.hid (Nat.le_refl wr.heap.size)
            clear hiP hp0 hp1 hp2
            go_region_held3 (fun w' => w'.cell? ⟨g3, 0, none⟩ = some (.int .i64 x1) ∧ w'.cell? ⟨g3, 1, none⟩ = some (.int .i64 pg) ∧ Below wr.heap.size wr w')
              (first
                | assumption
                | exact HCL.out _ BR.out.drew
                | exact HCL.out _ (BR.out.alloc BS.out _).drew
                | exact HCL.out _ ((BR.out.alloc BS.out _).alloc (by simp) _).drew
                | exact HCL.out _ BA2.out
                | exact HCL.out _ BB2.out
                | exact HCL.out _ BC2.out
                | exact HCL.out _ (BA2.out.alloc BA2.out.size _)
                | exact HCL.out _ BA8.out
                | exact HCL.out _ BB8.out
                | exact HCL.out _ BC8.out
                | exact HCL.out _ BA9.out
                | exact HCL.out _ BB9.out
                | exact HCL.out _ BC9.out)
              (first
                | (with_reducible refine step_append_run rfl (.tmp 55) (.tmp 58) 26 rfl (.slice (some ⟨wr.heap.size, 0, none⟩) 0 0) (.slice (some ⟨b, o, none⟩) k c) rfl rfl _ _ RA2.out ?_)
                | (with_reducible refine step_append_run rfl (.tmp 55) (.tmp 58) 26 rfl (.slice (some ⟨wr.heap.size, 0, none⟩) 0 0) (.slice (some ⟨b, o, none⟩) k c) rfl rfl _ _ RB2.out ?_)
                | (with_reducible refine step_append_run rfl (.tmp 55) (.tmp 58) 26 rfl (.slice (some ⟨wr.heap.size + 1, 0, none⟩) 0 0) (.slice (some ⟨b, o, none⟩) k c) rfl rfl _ _ RC2.out ?_)
                | (with_reducible refine step_append_run rfl (.tmp 59) (.tmp 61) 26 rfl va2 (.slice (some ⟨wa2.heap.size, 0, none⟩) 1 1) rfl rfl _ _ RA8.out ?_)
                | (with_reducible refine step_append_run rfl (.tmp 59) (.tmp 61) 26 rfl vb2 (.slice (some ⟨wr.heap.size + 1, 0, none⟩) 1 1) rfl rfl _ _ RB8.out ?_)
                | (with_reducible refine step_append_run rfl (.tmp 59) (.tmp 61) 26 rfl vc2 (.slice (some ⟨wr.heap.size, 0, none⟩) 1 1) rfl rfl _ _ RC8.out ?_)
                | (with_reducible refine step_append_run rfl (.tmp 62) (.tmp 65) 26 rfl va8 (.slice (some ⟨b, o + k * 2, none⟩) r c2) rfl rfl _ _ RA9.out ?_)
                | (with_reducible refine step_append_run rfl (.tmp 62) (.tmp 65) 26 rfl vb8 (.slice (some ⟨b, o + k * 2, none⟩) r c2) rfl rfl _ _ RB9.out ?_)
                | (with_reducible refine step_append_run rfl (.tmp 62) (.tmp 65) 26 rfl vc8 (.slice (some ⟨b, o + k * 2, none⟩) r c2) rfl rfl _ _ RC9.out ?_))
            all_goals
              go_wp2
              go_ret
              first
                | exact LA9.out
                | exact LB9.out
                | exact LC9.out
        · have u2 : (x1 == pc) = false := by simp [c2]
          clear hl
          go_wp2
          go_quiet (fail)
          obtain ⟨q1, rfl⟩ : ∃ q1, q1 = nq := ⟨_, rfl⟩
          go_wp2
          go_quiet (fail)
          obtain ⟨q2, rfl⟩ : ∃ q2, q2 = nq := ⟨_, rfl⟩
          have HNE := Lib.hid (show l[k]? ≠ some ⟨pc, pg⟩ from fun e => c2 (by rw [HXX.out] at e; injection e with e; injection e))
          obtain ⟨r, hr⟩ : ∃ r, r = n - k := ⟨_, rfl⟩
          obtain ⟨c2, hc2⟩ : ∃ c2, c2 = c - k := ⟨_, rfl⟩
          have e1 : n - k = r := hr.symm
          have e2 : c - k = c2 := hc2.symm
          have e3 : (n : Int) - (k : Int) = (r : Int) := by omega
          have e4 : (c : Int) - (k : Int) = (c2 : Int) := by omega
          have e5 : k + r = n := by omega
          clear hr hc2
          have e6 : (0 : Int) ≤ (k : Int) := by omega
          have e7 : (k : Int) ≤ (n : Int) := by omega
          have e8 : (k : Int) ≤ (c : Int) := by omega
          have e9 : (n : Int) ≤ (c : Int) := by omega
          have ea : c ≠ k := by omega
          have eb : k ≠ c := by omega
          have ec : ¬ ((c : Int) = (k : Int)) := by omega
          have ed : k ≤ c := by omega
          have ee : k ≤ n := by omega
          go_wp2_with fail
          generalize hwr : ((W1.drewN m).drewN q1).drewN q2 = wr
          have HBW := Lib.hid (show Below w.heap.size w wr from hwr ▸ below_drewN (below_drewN (below_drewN HB.out _) _) _)
          have HKW := Lib.hid (show Blk wr g3 29 #[.int .i64 pc, .int .i64 pg] from hwr ▸ HK.out)
          clear hwr k0 k1
          obtain ⟨iP, hiP, hp0, hp1, hp2⟩ := info_parts Try.infoPlT
          have HIP := Lib.hid hiP
          have HP0 := Lib.hid hp0
          have HP1 := Lib.hid hp1
          have HP2 := Lib.hid hp2
          have HPW := Lib.hid (HP.out.fresh HBW.out)
          have HT1 := Lib.hid (fun (W : World) (hW : Below wr.heap.size wr W) => (HPW.out.below hW).take k (by omega))
          have HT2 := Lib.hid (fun (W : World) (hW : Below wr.heap.size wr W) => ((HPW.out.below hW).drop k r e5 c2 : Rd W 2 (.slice (some ⟨b, o + k * 2, none⟩) r c2) r (flatP (l.drop k))))
          have HU := Lib.hid (show ([Value.int .i64 pc, Value.int .i64 pg]).length = 2 from rfl)
          have HU1 := Lib.hid (show ∀ u ∈ [Value.int .i64 pc, Value.int .i64 pg], u.oneCell' = true from flatP_one [⟨pc, pg⟩])
          have HQ1 := Lib.hid (show k + 1 ≤ maxLen from by unfold maxLen; omega)
          have HQ2 := Lib.hid (show (k + 1) * 16 ≤ 140737488355328 from by omega)
          have HCUT := Lib.hid (show putP l ⟨pc, pg⟩ = l.take k ++ [⟨pc, pg⟩] ++ l.drop k from by
            have := putP_cut (l := l) (p := ⟨pc, pg⟩) (by rw [HE.out]; exact HNE.out)
            rw [HE.out] at this
            exact this)
          obtain ⟨va2, wa2, va8, wa8, ra2, ra8, ba2, ba8, la8⟩ := app_a (P := Try.prog) (wr := wr) 26 26 26 29 iP (.agg (plV pl0)) 2 16 Try.underlying26 HIP.out HP0.out HP1.out HP2.out rfl (by decide) _ _ HQ1.out HQ2.out _ HT1.out [.int .i64 pc, .int .i64 pg] HU.out HU1.out
          obtain ⟨va9, wa9, ra9, la9, ga9⟩ := run_app (P := Try.prog) wr.heap.size 26 26 29 iP (.agg (plV pl0)) 2 16 Try.underlying26 HIP.out HP0.out HP1.out HP2.out rfl (by decide) _ _ _ la8 _ _ _ (HT2.out _ ba8) (by unfold maxLen; omega) (by omega) ba8.size
          have BA2 := Lib.hid ba2
          have BA8 := Lib.hid ba8
          have BA9 := Lib.hid (ba8.trans (own_below la8 ga9 ba8.size))
          have RA2 := Lib.hid ra2
          have RA8 := Lib.hid ra8
          have RA9 := Lib.hid ra9
          have LA9 := Lib.hid (show ∃ v', Ending.returned va9 = Ending.returned v' ∧ (Pls wa9 wa9.heap.size v' (putP l ⟨pc, pg⟩) ∧ Shp v' ∧ OldNew w (.slice (some ⟨b, o, none⟩) n c) v') ∧ Below w.heap.size w wa9 from by
            refine ⟨_, rfl, ⟨?_, Shp.own la9, .inr (own_new la9 HBW.out.size)⟩, HBW.out.trans (BA9.out.mono HBW.out.size)⟩
            refine Pls.of_own (l := putP l ⟨pc, pg⟩) (by rw [HCUT.out, flatP_append, flatP_append]; exact la9) (by rw [HCUT.out, List.length_append, List.length_append, List.length_take, List.length_drop, HN.out]; simp <;> omega))
          clear ra2 ra8 ra9 ba2 ba8 la8 la9 ga9
          obtain ⟨vb2, wb2, vb8, wb8, rb2, rb8, bb2, bb8, lb8⟩ := app_b (P := Try.prog) (wr := wr) 26 26 26 29 iP (.agg (plV pl0)) 2 16 Try.underlying26 HIP.out HP0.out HP1.out HP2.out rfl (by decide) _ _ HQ1.out HQ2.out _ HT1.out [.int .i64 pc, .int .i64 pg] HU.out HU1.out
          obtain ⟨vb9, wb9, rb9, lb9, gb9⟩ := run_app (P := Try.prog) wr.heap.size 26 26 29 iP (.agg (plV pl0)) 2 16 Try.underlying26 HIP.out HP0.out HP1.out HP2.out rfl (by decide) _ _ _ lb8 _ _ _ (HT2.out _ bb8) (by unfold maxLen; omega) (by omega) bb8.size
          have BB2 := Lib.hid bb2
          have BB8 := Lib.hid bb8
          have BB9 := Lib.hid (bb8.trans (own_below lb8 gb9 bb8.size))
          have RB2 := Lib.hid rb2
          have RB8 := Lib.hid rb8
          have RB9 := Lib.hid rb9
          have LB9 := Lib.hid (show ∃ v', Ending.returned vb9 = Ending.returned v' ∧ (Pls wb9 wb9.heap.size v' (putP l ⟨pc, pg⟩) ∧ Shp v' ∧ OldNew w (.slice (some ⟨b, o, none⟩) n c) v') ∧ Below w.heap.size w wb9 from by
            refine ⟨_, rfl, ⟨?_, Shp.own lb9, .inr (own_new lb9 HBW.out.size)⟩, HBW.out.trans (BB9.out.mono HBW.out.size)⟩
            refine Pls.of_own (l := putP l ⟨pc, pg⟩) (by rw [HCUT.out, flatP_append, flatP_append]; exact lb9) (by rw [HCUT.out, List.length_append, List.length_append, List.length_take, List.length_drop, HN.out]; simp <;> omega))
          clear rb2 rb8 rb9 bb2 bb8 lb8 lb9 gb9
          obtain ⟨vc2, wc2, vc8, wc8, rc2, rc8, bc2, bc8, lc8⟩ := app_c (P := Try.prog) (wr := wr) 26 26 26 29 iP (.agg (plV pl0)) 2 16 Try.underlying26 HIP.out HP0.out HP1.out HP2.out rfl (by decide) _ _ HQ1.out HQ2.out _ HT1.out [.int .i64 pc, .int .i64 pg] HU.out HU1.out
          obtain ⟨vc9, wc9, rc9, lc9, gc9⟩ := run_app (P := Try.prog) wr.heap.size 26 26 29 iP (.agg (plV pl0)) 2 16 Try.underlying26 HIP.out HP0.out HP1.out HP2.out rfl (by decide) _ _ _ lc8 _ _ _ (HT2.out _ bc8) (by unfold maxLen; omega) (by omega) bc8.size
          have BC2 := Lib.hid bc2
          have BC8 := Lib.hid bc8
          have BC9 := Lib.hid (bc8.trans (own_below lc8 gc9 bc8.size))
          have RC2 := Lib.hid rc2
          have RC8 := Lib.hid rc8
          have RC9 := Lib.hid rc9
          have LC9 := Lib.hid (show ∃ v', Ending.returned vc9 = Ending.returned v' ∧ (Pls wc9 wc9.heap.size v' (putP l ⟨pc, pg⟩) ∧ Shp v' ∧ OldNew w (.slice (some ⟨b, o, none⟩) n c) v') ∧ Below w.heap.size w wc9 from by
            refine ⟨_, rfl, ⟨?_, Shp.own lc9, .inr (own_new lc9 HBW.out.size)⟩, HBW.out.trans (BC9.out.mono HBW.out.size)⟩
            refine Pls.of_own (l := putP l ⟨pc, pg⟩) (by rw [HCUT.out, flatP_append, flatP_append]; exact lc9) (by rw [HCUT.out, List.length_append, List.length_append, List.length_take, List.length_drop, HN.out]; simp <;> omega))
          clear rc2 rc8 rc9 bc2 bc8 lc8 lc9 gc9
          have HCL := Lib.hid (show ∀ w', Below wr.heap.size wr w' → w'.cell? ⟨g3, 0, none⟩ = some (.int .i64 pc) ∧ w'.cell? ⟨g3, 1, none⟩ = some (.int .i64 pg) ∧ Below wr.heap.size wr w' from fun w' hw' => ⟨(HKW.out.below hw' HKW.out.lt).cell 0, (HKW.out.below hw' HKW.out.lt).cell 1, hw'⟩)
          have BR := Lib.hid (Below.refl wr.heap.size wr)
          have BS := Lib.hid (Nat.le_refl wr.heap.size)
          clear hiP hp0 hp1 hp2
          go_region_held3 (fun w' => w'.cell? ⟨g3, 0, none⟩ = some (.int .i64 pc) ∧ w'.cell? ⟨g3, 1, none⟩ = some (.int .i64 pg) ∧ Below wr.heap.size wr w')
            (first
              | assumption
              | exact HCL.out _ BR.out.drew
              | exact HCL.out _ (BR.out.alloc BS.out _).drew
              | exact HCL.out _ ((BR.out.alloc BS.out _).alloc (by simp) _).drew
              | exact HCL.out _ BA2.out
              | exact HCL.out _ BB2.out
              | exact HCL.out _ BC2.out
              | exact HCL.out _ (BA2.out.alloc BA2.out.size _)
              | exact HCL.out _ BA8.out
              | exact HCL.out _ BB8.out
              | exact HCL.out _ BC8.out
              | exact HCL.out _ BA9.out
              | exact HCL.out _ BB9.out
              | exact HCL.out _ BC9.out)
            (first
              | (with_reducible refine step_append_run rfl (.tmp 55) (.tmp 58) 26 rfl (.slice (some ⟨wr.heap.size, 0, none⟩) 0 0) (.slice (some ⟨b, o, none⟩) k c) rfl rfl _ _ RA2.out ?_)
              | (with_reducible refine step_append_run rfl (.tmp 55) (.tmp 58) 26 rfl (.slice (some ⟨wr.heap.size, 0, none⟩) 0 0) (.slice (some ⟨b, o, none⟩) k c) rfl rfl _ _ RB2.out ?_)
              | (with_reducible refine step_append_run rfl (.tmp 55) (.tmp 58) 26 rfl (.slice (some ⟨wr.heap.size + 1, 0, none⟩) 0 0) (.slice (some ⟨b, o, none⟩) k c) rfl rfl _ _ RC2.out ?_)
              | (with_reducible refine step_append_run rfl (.tmp 59) (.tmp 61) 26 rfl va2 (.slice (some ⟨wa2.heap.size, 0, none⟩) 1 1) rfl rfl _ _ RA8.out ?_)
              | (with_reducible refine step_append_run rfl (.tmp 59) (.tmp 61) 26 rfl vb2 (.slice (some ⟨wr.heap.size + 1, 0, none⟩) 1 1) rfl rfl _ _ RB8.out ?_)
              | (with_reducible refine step_append_run rfl (.tmp 59) (.tmp 61) 26 rfl vc2 (.slice (some ⟨wr.heap.size, 0, none⟩) 1 1) rfl rfl _ _ RC8.out ?_)
              | (with_reducible refine step_append_run rfl (.tmp 62) (.tmp 65) 26 rfl va8 (.slice (some ⟨b, o + k * 2, none⟩) r c2) rfl rfl _ _ RA9.out ?_)
              | (with_reducible refine step_append_run rfl (.tmp 62) (.tmp 65) 26 rfl vb8 (.slice (some ⟨b, o + k * 2, none⟩) r c2) rfl rfl _ _ RB9.out ?_)
              | (with_reducible refine step_append_run rfl (.tmp 62) (.tmp 65) 26 rfl vc8 (.slice (some ⟨b, o + k * 2, none⟩) r c2) rfl rfl _ _ RC9.out ?_))
          all_goals
            go_wp2
            go_ret
            first
              | exact LA9.out
              | exact LB9.out
              | exact LC9.out
    · obtain rfl : k = n := by omega
      have u0 : decide ((k : Int) < (k : Int)) = false := decide_eq_false (by omega)
      have HE := Lib.hid (show posP l ⟨pc, pg⟩ = k from by have := HPOS.out; have := posP_le l ⟨pc, pg⟩; have := HN.out; omega)
      have HNE := Lib.hid (show l[k]? ≠ some ⟨pc, pg⟩ from fun e => by rw [List.getElem?_eq_none (by rw [HN.out]; exact Nat.le_refl _)] at e; cases e)
      have HD0 := Lib.hid (show flatP (l.drop k) = [] from by rw [List.drop_of_length_le (by rw [HN.out]; exact Nat.le_refl _)]; rfl)
      rcases HSA.out with rfl | ⟨b, o, rfl⟩
      · obtain rfl : c = 0 := HA0.out rfl
        obtain rfl : k = 0 := by omega
        go_wp2
        go_quiet (fail)
        obtain ⟨q1, rfl⟩ : ∃ q1, q1 = nq := ⟨_, rfl⟩
        go_wp2
        go_quiet (fail)
        obtain ⟨q2, rfl⟩ : ∃ q2, q2 = nq := ⟨_, rfl⟩
        go_wp2_with fail
        generalize hwr : ((W1.drewN m).drewN q1).drewN q2 = wr
        have HBW := Lib.hid (show Below w.heap.size w wr from hwr ▸ below_drewN (below_drewN (below_drewN HB.out _) _) _)
        have HKW := Lib.hid (show Blk wr g3 29 #[.int .i64 pc, .int .i64 pg] from hwr ▸ HK.out)
        clear hwr k0 k1
        obtain ⟨iP, hiP, hp0, hp1, hp2⟩ := info_parts Try.infoPlT
        have HIP := Lib.hid hiP
        have HP0 := Lib.hid hp0
        have HP1 := Lib.hid hp1
        have HP2 := Lib.hid hp2
        have HPW := Lib.hid (HP.out.fresh HBW.out)
        have HT1 := Lib.hid (fun (W : World) (hW : Below wr.heap.size wr W) => (HPW.out.below hW).take 0 (by omega))
        have HT2 := Lib.hid (fun (W : World) (hW : Below wr.heap.size wr W) => ((by rw [HD0.out]; exact Rd.zero _ _ _ _) : Rd W 2 (.slice none 0 0) 0 (flatP (l.drop 0))))
        have HU := Lib.hid (show ([Value.int .i64 pc, Value.int .i64 pg]).length = 2 from rfl)
        have HU1 := Lib.hid (show ∀ u ∈ [Value.int .i64 pc, Value.int .i64 pg], u.oneCell' = true from flatP_one [⟨pc, pg⟩])
        have HQ1 := Lib.hid (show 0 + 1 ≤ maxLen from by unfold maxLen; omega)
        have HQ2 := Lib.hid (show (0 + 1) * 16 ≤ 140737488355328 from by omega)
        have HCUT := Lib.hid (show putP l ⟨pc, pg⟩ = l.take 0 ++ [⟨pc, pg⟩] ++ l.drop 0 from by
          have := putP_cut (l := l) (p := ⟨pc, pg⟩) (by rw [HE.out]; exact HNE.out)
          rw [HE.out] at this
          exact this)
        obtain ⟨va2, wa2, va8, wa8, ra2, ra8, ba2, ba8, la8⟩ := app_a (P := Try.prog) (wr := wr) 26 26 26 29 iP (.agg (plV pl0)) 2 16 Try.underlying26 HIP.out HP0.out HP1.out HP2.out rfl (by decide) _ _ HQ1.out HQ2.out _ HT1.out [.int .i64 pc, .int .i64 pg] HU.out HU1.out
        obtain ⟨va9, wa9, ra9, la9, ga9⟩ := run_app (P := Try.prog) wr.heap.size 26 26 29 iP (.agg (plV pl0)) 2 16 Try.underlying26 HIP.out HP0.out HP1.out HP2.out rfl (by decide) _ _ _ la8 _ _ _ (HT2.out _ ba8) (by unfold maxLen; omega) (by omega) ba8.size
        have BA2 := Lib.hid ba2
        have BA8 := Lib.hid ba8
        have BA9 := Lib.hid (ba8.trans (own_below la8 ga9 ba8.size))
        have RA2 := Lib.hid ra2
        have RA8 := Lib.hid ra8
        have RA9 := Lib.hid ra9
        have LA9 := Lib.hid (show ∃ v', Ending.returned va9 = Ending.returned v' ∧ (Pls wa9 wa9.heap.size v' (putP l ⟨pc, pg⟩) ∧ Shp v' ∧ OldNew w (.slice none 0 0) v') ∧ Below w.heap.size w wa9 from by
          refine ⟨_, rfl, ⟨?_, Shp.own la9, .inr (own_new la9 HBW.out.size)⟩, HBW.out.trans (BA9.out.mono HBW.out.size)⟩
          refine Pls.of_own (l := putP l ⟨pc, pg⟩) (by rw [HCUT.out, flatP_append, flatP_append]; exact la9) (by rw [HCUT.out, List.length_append, List.length_append, List.length_take, List.length_drop, HN.out]; simp <;> omega))
        clear ra2 ra8 ra9 ba2 ba8 la8 la9 ga9
        obtain ⟨vb2, wb2, vb8, wb8, rb2, rb8, bb2, bb8, lb8⟩ := app_b (P := Try.prog) (wr := wr) 26 26 26 29 iP (.agg (plV pl0)) 2 16 Try.underlying26 HIP.out HP0.out HP1.out HP2.out rfl (by decide) _ _ HQ1.out HQ2.out _ HT1.out [.int .i64 pc, .int .i64 pg] HU.out HU1.out
        obtain ⟨vb9, wb9, rb9, lb9, gb9⟩ := run_app (P := Try.prog) wr.heap.size 26 26 29 iP (.agg (plV pl0)) 2 16 Try.underlying26 HIP.out HP0.out HP1.out HP2.out rfl (by decide) _ _ _ lb8 _ _ _ (HT2.out _ bb8) (by unfold maxLen; omega) (by omega) bb8.size
        have BB2 := Lib.hid bb2
        have BB8 := Lib.hid bb8
        have BB9 := Lib.hid (bb8.trans (own_below lb8 gb9 bb8.size))
        have RB2 := Lib.hid rb2
        have RB8 := Lib.hid rb8
        have RB9 := Lib.hid rb9
        have LB9 := Lib.hid (show ∃ v', Ending.returned vb9 = Ending.returned v' ∧ (Pls wb9 wb9.heap.size v' (putP l ⟨pc, pg⟩) ∧ Shp v' ∧ OldNew w (.slice none 0 0) v') ∧ Below w.heap.size w wb9 from by
          refine ⟨_, rfl, ⟨?_, Shp.own lb9, .inr (own_new lb9 HBW.out.size)⟩, HBW.out.trans (BB9.out.mono HBW.out.size)⟩
          refine Pls.of_own (l := putP l ⟨pc, pg⟩) (by rw [HCUT.out, flatP_append, flatP_append]; exact lb9) (by rw [HCUT.out, List.length_append, List.length_append, List.length_take, List.length_drop, HN.out]; simp <;> omega))
        clear rb2 rb8 rb9 bb2 bb8 lb8 lb9 gb9
        obtain ⟨vc2, wc2, vc8, wc8, rc2, rc8, bc2, bc8, lc8⟩ := app_c (P := Try.prog) (wr := wr) 26 26 26 29 iP (.agg (plV pl0)) 2 16 Try.underlying26 HIP.out HP0.out HP1.out HP2.out rfl (by decide) _ _ HQ1.out HQ2.out _ HT1.out [.int .i64 pc, .int .i64 pg] HU.out HU1.out
        obtain ⟨vc9, wc9, rc9, lc9, gc9⟩ := run_app (P := Try.prog) wr.heap.size 26 26 29 iP (.agg (plV pl0)) 2 16 Try.underlying26 HIP.out HP0.out HP1.out HP2.out rfl (by decide) _ _ _ lc8 _ _ _ (HT2.out _ bc8) (by unfold maxLen; omega) (by omega) bc8.size
        have BC2 := Lib.hid bc2
        have BC8 := Lib.hid bc8
        have BC9 := Lib.hid (bc8.trans (own_below lc8 gc9 bc8.size))
        have RC2 := Lib.hid rc2
        have RC8 := Lib.hid rc8
        have RC9 := Lib.hid rc9
        have LC9 := Lib.hid (show ∃ v', Ending.returned vc9 = Ending.returned v' ∧ (Pls wc9 wc9.heap.size v' (putP l ⟨pc, pg⟩) ∧ Shp v' ∧ OldNew w (.slice none 0 0) v') ∧ Below w.heap.size w wc9 from by
          refine ⟨_, rfl, ⟨?_, Shp.own lc9, .inr (own_new lc9 HBW.out.size)⟩, HBW.out.trans (BC9.out.mono HBW.out.size)⟩
          refine Pls.of_own (l := putP l ⟨pc, pg⟩) (by rw [HCUT.out, flatP_append, flatP_append]; exact lc9) (by rw [HCUT.out, List.length_append, List.length_append, List.length_take, List.length_drop, HN.out]; simp <;> omega))
        clear rc2 rc8 rc9 bc2 bc8 lc8 lc9 gc9
        have HCL := Lib.hid (show ∀ w', Below wr.heap.size wr w' → w'.cell? ⟨g3, 0, none⟩ = some (.int .i64 pc) ∧ w'.cell? ⟨g3, 1, none⟩ = some (.int .i64 pg) ∧ Below wr.heap.size wr w' from fun w' hw' => ⟨(HKW.out.below hw' HKW.out.lt).cell 0, (HKW.out.below hw' HKW.out.lt).cell 1, hw'⟩)
        have BR := Lib.hid (Below.refl wr.heap.size wr)
        have BS := Lib.hid (Nat.le_refl wr.heap.size)
        clear hiP hp0 hp1 hp2
        go_region_held3 (fun w' => w'.cell? ⟨g3, 0, none⟩ = some (.int .i64 pc) ∧ w'.cell? ⟨g3, 1, none⟩ = some (.int .i64 pg) ∧ Below wr.heap.size wr w')
          (first
            | assumption
            | exact HCL.out _ BR.out.drew
            | exact HCL.out _ (BR.out.alloc BS.out _).drew
            | exact HCL.out _ ((BR.out.alloc BS.out _).alloc (by simp) _).drew
            | exact HCL.out _ BA2.out
            | exact HCL.out _ BB2.out
            | exact HCL.out _ BC2.out
            | exact HCL.out _ (BA2.out.alloc BA2.out.size _)
            | exact HCL.out _ BA8.out
            | exact HCL.out _ BB8.out
            | exact HCL.out _ BC8.out
            | exact HCL.out _ BA9.out
            | exact HCL.out _ BB9.out
            | exact HCL.out _ BC9.out)
          (first
            | (with_reducible refine step_append_run rfl (.tmp 55) (.tmp 58) 26 rfl (.slice (some ⟨wr.heap.size, 0, none⟩) 0 0) (.slice none 0 0) rfl rfl _ _ RA2.out ?_)
            | (with_reducible refine step_append_run rfl (.tmp 55) (.tmp 58) 26 rfl (.slice (some ⟨wr.heap.size, 0, none⟩) 0 0) (.slice none 0 0) rfl rfl _ _ RB2.out ?_)
            | (with_reducible refine step_append_run rfl (.tmp 55) (.tmp 58) 26 rfl (.slice (some ⟨wr.heap.size + 1, 0, none⟩) 0 0) (.slice none 0 0) rfl rfl _ _ RC2.out ?_)
            | (with_reducible refine step_append_run rfl (.tmp 59) (.tmp 61) 26 rfl va2 (.slice (some ⟨wa2.heap.size, 0, none⟩) 1 1) rfl rfl _ _ RA8.out ?_)
            | (with_reducible refine step_append_run rfl (.tmp 59) (.tmp 61) 26 rfl vb2 (.slice (some ⟨wr.heap.size + 1, 0, none⟩) 1 1) rfl rfl _ _ RB8.out ?_)
            | (with_reducible refine step_append_run rfl (.tmp 59) (.tmp 61) 26 rfl vc2 (.slice (some ⟨wr.heap.size, 0, none⟩) 1 1) rfl rfl _ _ RC8.out ?_)
            | (with_reducible refine step_append_run rfl (.tmp 62) (.tmp 65) 26 rfl va8 (.slice none 0 0) rfl rfl _ _ RA9.out ?_)
            | (with_reducible refine step_append_run rfl (.tmp 62) (.tmp 65) 26 rfl vb8 (.slice none 0 0) rfl rfl _ _ RB9.out ?_)
            | (with_reducible refine step_append_run rfl (.tmp 62) (.tmp 65) 26 rfl vc8 (.slice none 0 0) rfl rfl _ _ RC9.out ?_))
        all_goals
          go_wp2
          go_ret
          first
            | exact LA9.out
            | exact LB9.out
            | exact LC9.out
      · by_cases hkc : c = k
        · have e6 : (0 : Int) ≤ (k : Int) := by omega
          have e8 : (k : Int) ≤ (c : Int) := by omega
          have ed : k ≤ c := by omega
          have hkd := hkc.symm
          subst hkd
          go_wp2
          go_quiet (fail)
          obtain ⟨q1, rfl⟩ : ∃ q1, q1 = nq := ⟨_, rfl⟩
          go_wp2
          go_quiet (fail)
          obtain ⟨q2, rfl⟩ : ∃ q2, q2 = nq := ⟨_, rfl⟩
          go_wp2_with fail
          generalize hwr : ((W1.drewN m).drewN q1).drewN q2 = wr
          have HBW := Lib.hid (show Below w.heap.size w wr from hwr ▸ below_drewN (below_drewN (below_drewN HB.out _) _) _)
          have HKW := Lib.hid (show Blk wr g3 29 #[.int .i64 pc, .int .i64 pg] from hwr ▸ HK.out)
          clear hwr k0 k1
          obtain ⟨iP, hiP, hp0, hp1, hp2⟩ := info_parts Try.infoPlT
          have HIP := Lib.hid hiP
          have HP0 := Lib.hid hp0
          have HP1 := Lib.hid hp1
          have HP2 := Lib.hid hp2
          have HPW := Lib.hid (HP.out.fresh HBW.out)
          have HT1 := Lib.hid (fun (W : World) (hW : Below wr.heap.size wr W) => (HPW.out.below hW).take k (by omega))
          have HT2 := Lib.hid (fun (W : World) (hW : Below wr.heap.size wr W) => ((by rw [HD0.out]; exact Rd.zero _ _ _ _) : Rd W 2 (.slice (some ⟨b, o, none⟩) 0 0) 0 (flatP (l.drop k))))
          have HU := Lib.hid (show ([Value.int .i64 pc, Value.int .i64 pg]).length = 2 from rfl)
          have HU1 := Lib.hid (show ∀ u ∈ [Value.int .i64 pc, Value.int .i64 pg], u.oneCell' = true from flatP_one [⟨pc, pg⟩])
          have HQ1 := Lib.hid (show k + 1 ≤ maxLen from by unfold maxLen; omega)
          have HQ2 := Lib.hid (show (k + 1) * 16 ≤ 140737488355328 from by omega)
          have HCUT := Lib.hid (show putP l ⟨pc, pg⟩ = l.take k ++ [⟨pc, pg⟩] ++ l.drop k from by
            have := putP_cut (l := l) (p := ⟨pc, pg⟩) (by rw [HE.out]; exact HNE.out)
            rw [HE.out] at this
            exact this)
          obtain ⟨va2, wa2, va8, wa8, ra2, ra8, ba2, ba8, la8⟩ := app_a (P := Try.prog) (wr := wr) 26 26 26 29 iP (.agg (plV pl0)) 2 16 Try.underlying26 HIP.out HP0.out HP1.out HP2.out rfl (by decide) _ _ HQ1.out HQ2.out _ HT1.out [.int .i64 pc, .int .i64 pg] HU.out HU1.out
          obtain ⟨va9, wa9, ra9, la9, ga9⟩ := run_app (P := Try.prog) wr.heap.size 26 26 29 iP (.agg (plV pl0)) 2 16 Try.underlying26 HIP.out HP0.out HP1.out HP2.out rfl (by decide) _ _ _ la8 _ _ _ (HT2.out _ ba8) (by unfold maxLen; omega) (by omega) ba8.size
          have BA2 := Lib.hid ba2
          have BA8 := Lib.hid ba8
          have BA9 := Lib.hid (ba8.trans (own_below la8 ga9 ba8.size))
          have RA2 := Lib.hid ra2
          have RA8 := Lib.hid ra8
          have RA9 := Lib.hid ra9
          have LA9 := Lib.hid (show ∃ v', Ending.returned va9 = Ending.returned v' ∧ (Pls wa9 wa9.heap.size v' (putP l ⟨pc, pg⟩) ∧ Shp v' ∧ OldNew w (.slice (some ⟨b, o, none⟩) k k) v') ∧ Below w.heap.size w wa9 from by
            refine ⟨_, rfl, ⟨?_, Shp.own la9, .inr (own_new la9 HBW.out.size)⟩, HBW.out.trans (BA9.out.mono HBW.out.size)⟩
            refine Pls.of_own (l := putP l ⟨pc, pg⟩) (by rw [HCUT.out, flatP_append, flatP_append]; exact la9) (by rw [HCUT.out, List.length_append, List.length_append, List.length_take, List.length_drop, HN.out]; simp <;> omega))
          clear ra2 ra8 ra9 ba2 ba8 la8 la9 ga9
          obtain ⟨vb2, wb2, vb8, wb8, rb2, rb8, bb2, bb8, lb8⟩ := app_b (P := Try.prog) (wr := wr) 26 26 26 29 iP (.agg (plV pl0)) 2 16 Try.underlying26 HIP.out HP0.out HP1.out HP2.out rfl (by decide) _ _ HQ1.out HQ2.out _ HT1.out [.int .i64 pc, .int .i64 pg] HU.out HU1.out
          obtain ⟨vb9, wb9, rb9, lb9, gb9⟩ := run_app (P := Try.prog) wr.heap.size 26 26 29 iP (.agg (plV pl0)) 2 16 Try.underlying26 HIP.out HP0.out HP1.out HP2.out rfl (by decide) _ _ _ lb8 _ _ _ (HT2.out _ bb8) (by unfold maxLen; omega) (by omega) bb8.size
          have BB2 := Lib.hid bb2
          have BB8 := Lib.hid bb8
          have BB9 := Lib.hid (bb8.trans (own_below lb8 gb9 bb8.size))
          have RB2 := Lib.hid rb2
          have RB8 := Lib.hid rb8
          have RB9 := Lib.hid rb9
          have LB9 := Lib.hid (show ∃ v', Ending.returned vb9 = Ending.returned v' ∧ (Pls wb9 wb9.heap.size v' (putP l ⟨pc, pg⟩) ∧ Shp v' ∧ OldNew w (.slice (some ⟨b, o, none⟩) k k) v') ∧ Below w.heap.size w wb9 from by
            refine ⟨_, rfl, ⟨?_, Shp.own lb9, .inr (own_new lb9 HBW.out.size)⟩, HBW.out.trans (BB9.out.mono HBW.out.size)⟩
            refine Pls.of_own (l := putP l ⟨pc, pg⟩) (by rw [HCUT.out, flatP_append, flatP_append]; exact lb9) (by rw [HCUT.out, List.length_append, List.length_append, List.length_take, List.length_drop, HN.out]; simp <;> omega))
          clear rb2 rb8 rb9 bb2 bb8 lb8 lb9 gb9
          obtain ⟨vc2, wc2, vc8, wc8, rc2, rc8, bc2, bc8, lc8⟩ := app_c (P := Try.prog) (wr := wr) 26 26 26 29 iP (.agg (plV pl0)) 2 16 Try.underlying26 HIP.out HP0.out HP1.out HP2.out rfl (by decide) _ _ HQ1.out HQ2.out _ HT1.out [.int .i64 pc, .int .i64 pg] HU.out HU1.out
          obtain ⟨vc9, wc9, rc9, lc9, gc9⟩ := run_app (P := Try.prog) wr.heap.size 26 26 29 iP (.agg (plV pl0)) 2 16 Try.underlying26 HIP.out HP0.out HP1.out HP2.out rfl (by decide) _ _ _ lc8 _ _ _ (HT2.out _ bc8) (by unfold maxLen; omega) (by omega) bc8.size
          have BC2 := Lib.hid bc2
          have BC8 := Lib.hid bc8
          have BC9 := Lib.hid (bc8.trans (own_below lc8 gc9 bc8.size))
          have RC2 := Lib.hid rc2
          have RC8 := Lib.hid rc8
          have RC9 := Lib.hid rc9
          have LC9 := Lib.hid (show ∃ v', Ending.returned vc9 = Ending.returned v' ∧ (Pls wc9 wc9.heap.size v' (putP l ⟨pc, pg⟩) ∧ Shp v' ∧ OldNew w (.slice (some ⟨b, o, none⟩) k k) v') ∧ Below w.heap.size w wc9 from by
            refine ⟨_, rfl, ⟨?_, Shp.own lc9, .inr (own_new lc9 HBW.out.size)⟩, HBW.out.trans (BC9.out.mono HBW.out.size)⟩
            refine Pls.of_own (l := putP l ⟨pc, pg⟩) (by rw [HCUT.out, flatP_append, flatP_append]; exact lc9) (by rw [HCUT.out, List.length_append, List.length_append, List.length_take, List.length_drop, HN.out]; simp <;> omega))
          clear rc2 rc8 rc9 bc2 bc8 lc8 lc9 gc9
          have HCL := Lib.hid (show ∀ w', Below wr.heap.size wr w' → w'.cell? ⟨g3, 0, none⟩ = some (.int .i64 pc) ∧ w'.cell? ⟨g3, 1, none⟩ = some (.int .i64 pg) ∧ Below wr.heap.size wr w' from fun w' hw' => ⟨(HKW.out.below hw' HKW.out.lt).cell 0, (HKW.out.below hw' HKW.out.lt).cell 1, hw'⟩)
          have BR := Lib.hid (Below.refl wr.heap.size wr)
          have BS := Lib.hid (Nat.le_refl wr.heap.size)
          clear hiP hp0 hp1 hp2
          go_region_held3 (fun w' => w'.cell? ⟨g3, 0, none⟩ = some (.int .i64 pc) ∧ w'.cell? ⟨g3, 1, none⟩ = some (.int .i64 pg) ∧ Below wr.heap.size wr w')
            (first
              | assumption
              | exact HCL.out _ BR.out.drew
              | exact HCL.out _ (BR.out.alloc BS.out _).drew
              | exact HCL.out _ ((BR.out.alloc BS.out _).alloc (by simp) _).drew
              | exact HCL.out _ BA2.out
              | exact HCL.out _ BB2.out
              | exact HCL.out _ BC2.out
              | exact HCL.out _ (BA2.out.alloc BA2.out.size _)
              | exact HCL.out _ BA8.out
              | exact HCL.out _ BB8.out
              | exact HCL.out _ BC8.out
              | exact HCL.out _ BA9.out
              | exact HCL.out _ BB9.out
              | exact HCL.out _ BC9.out)
            (first
              | (with_reducible refine step_append_run rfl (.tmp 55) (.tmp 58) 26 rfl (.slice (some ⟨wr.heap.size, 0, none⟩) 0 0) (.slice (some ⟨b, o, none⟩) k k) rfl rfl _ _ RA2.out ?_)
              | (with_reducible refine step_append_run rfl (.tmp 55) (.tmp 58) 26 rfl (.slice (some ⟨wr.heap.size, 0, none⟩) 0 0) (.slice (some ⟨b, o, none⟩) k k) rfl rfl _ _ RB2.out ?_)
              | (with_reducible refine step_append_run rfl (.tmp 55) (.tmp 58) 26 rfl (.slice (some ⟨wr.heap.size + 1, 0, none⟩) 0 0) (.slice (some ⟨b, o, none⟩) k k) rfl rfl _ _ RC2.out ?_)
              | (with_reducible refine step_append_run rfl (.tmp 59) (.tmp 61) 26 rfl va2 (.slice (some ⟨wa2.heap.size, 0, none⟩) 1 1) rfl rfl _ _ RA8.out ?_)
              | (with_reducible refine step_append_run rfl (.tmp 59) (.tmp 61) 26 rfl vb2 (.slice (some ⟨wr.heap.size + 1, 0, none⟩) 1 1) rfl rfl _ _ RB8.out ?_)
              | (with_reducible refine step_append_run rfl (.tmp 59) (.tmp 61) 26 rfl vc2 (.slice (some ⟨wr.heap.size, 0, none⟩) 1 1) rfl rfl _ _ RC8.out ?_)
              | (with_reducible refine step_append_run rfl (.tmp 62) (.tmp 65) 26 rfl va8 (.slice (some ⟨b, o, none⟩) 0 0) rfl rfl _ _ RA9.out ?_)
              | (with_reducible refine step_append_run rfl (.tmp 62) (.tmp 65) 26 rfl vb8 (.slice (some ⟨b, o, none⟩) 0 0) rfl rfl _ _ RB9.out ?_)
              | (with_reducible refine step_append_run rfl (.tmp 62) (.tmp 65) 26 rfl vc8 (.slice (some ⟨b, o, none⟩) 0 0) rfl rfl _ _ RC9.out ?_))
          all_goals
            go_wp2
            go_ret
            first
              | exact LA9.out
              | exact LB9.out
              | exact LC9.out
        · have e6 : (0 : Int) ≤ (k : Int) := by omega
          have e8 : (k : Int) ≤ (c : Int) := by omega
          have ed : k ≤ c := by omega
          obtain ⟨c2, hc2⟩ : ∃ c2, c2 = c - k := ⟨_, rfl⟩
          have e2 : c - k = c2 := hc2.symm
          have e4 : (c : Int) - (k : Int) = (c2 : Int) := by omega
          have ea : c ≠ k := by omega
          have eb : k ≠ c := by omega
          have ec : ¬ ((c : Int) = (k : Int)) := by omega
          have eg : c ≠ 0 := by omega
          clear hc2
          go_wp2
          go_quiet (fail)
          obtain ⟨q1, rfl⟩ : ∃ q1, q1 = nq := ⟨_, rfl⟩
          go_wp2
          go_quiet (fail)
          obtain ⟨q2, rfl⟩ : ∃ q2, q2 = nq := ⟨_, rfl⟩
          go_wp2_with fail
          generalize hwr : ((W1.drewN m).drewN q1).drewN q2 = wr
          have HBW := Lib.hid (show Below w.heap.size w wr from hwr ▸ below_drewN (below_drewN (below_drewN HB.out _) _) _)
          have HKW := Lib.hid (show Blk wr g3 29 #[.int .i64 pc, .int .i64 pg] from hwr ▸ HK.out)
          clear hwr k0 k1
          obtain ⟨iP, hiP, hp0, hp1, hp2⟩ := info_parts Try.infoPlT
          have HIP := Lib.hid hiP
          have HP0 := Lib.hid hp0
          have HP1 := Lib.hid hp1
          have HP2 := Lib.hid hp2
          have HPW := Lib.hid (HP.out.fresh HBW.out)
          have HT1 := Lib.hid (fun (W : World) (hW : Below wr.heap.size wr W) => (HPW.out.below hW).take k (by omega))
          have HT2 := Lib.hid (fun (W : World) (hW : Below wr.heap.size wr W) => ((by rw [HD0.out]; exact Rd.zero _ _ _ _) : Rd W 2 (.slice (some ⟨b, o + k * 2, none⟩) 0 c2) 0 (flatP (l.drop k))))
          have HU := Lib.hid (show ([Value.int .i64 pc, Value.int .i64 pg]).length = 2 from rfl)
          have HU1 := Lib.hid (show ∀ u ∈ [Value.int .i64 pc, Value.int .i64 pg], u.oneCell' = true from flatP_one [⟨pc, pg⟩])
          have HQ1 := Lib.hid (show k + 1 ≤ maxLen from by unfold maxLen; omega)
          have HQ2 := Lib.hid (show (k + 1) * 16 ≤ 140737488355328 from by omega)
          have HCUT := Lib.hid (show putP l ⟨pc, pg⟩ = l.take k ++ [⟨pc, pg⟩] ++ l.drop k from by
            have := putP_cut (l := l) (p := ⟨pc, pg⟩) (by rw [HE.out]; exact HNE.out)
            rw [HE.out] at this
            exact this)
          obtain ⟨va2, wa2, va8, wa8, ra2, ra8, ba2, ba8, la8⟩ := app_a (P := Try.prog) (wr := wr) 26 26 26 29 iP (.agg (plV pl0)) 2 16 Try.underlying26 HIP.out HP0.out HP1.out HP2.out rfl (by decide) _ _ HQ1.out HQ2.out _ HT1.out [.int .i64 pc, .int .i64 pg] HU.out HU1.out
          obtain ⟨va9, wa9, ra9, la9, ga9⟩ := run_app (P := Try.prog) wr.heap.size 26 26 29 iP (.agg (plV pl0)) 2 16 Try.underlying26 HIP.out HP0.out HP1.out HP2.out rfl (by decide) _ _ _ la8 _ _ _ (HT2.out _ ba8) (by unfold maxLen; omega) (by omega) ba8.size
          have BA2 := Lib.hid ba2
          have BA8 := Lib.hid ba8
          have BA9 := Lib.hid (ba8.trans (own_below la8 ga9 ba8.size))
          have RA2 := Lib.hid ra2
          have RA8 := Lib.hid ra8
          have RA9 := Lib.hid ra9
          have LA9 := Lib.hid (show ∃ v', Ending.returned va9 = Ending.returned v' ∧ (Pls wa9 wa9.heap.size v' (putP l ⟨pc, pg⟩) ∧ Shp v' ∧ OldNew w (.slice (some ⟨b, o, none⟩) k c) v') ∧ Below w.heap.size w wa9 from by
            refine ⟨_, rfl, ⟨?_, Shp.own la9, .inr (own_new la9 HBW.out.size)⟩, HBW.out.trans (BA9.out.mono HBW.out.size)⟩
            refine Pls.of_own (l := putP l ⟨pc, pg⟩) (by rw [HCUT.out, flatP_append, flatP_append]; exact la9) (by rw [HCUT.out, List.length_append, List.length_append, List.length_take, List.length_drop, HN.out]; simp <;> omega))
          clear ra2 ra8 ra9 ba2 ba8 la8 la9 ga9
          obtain ⟨vb2, wb2, vb8, wb8, rb2, rb8, bb2, bb8, lb8⟩ := app_b (P := Try.prog) (wr := wr) 26 26 26 29 iP (.agg (plV pl0)) 2 16 Try.underlying26 HIP.out HP0.out HP1.out HP2.out rfl (by decide) _ _ HQ1.out HQ2.out _ HT1.out [.int .i64 pc, .int .i64 pg] HU.out HU1.out
          obtain ⟨vb9, wb9, rb9, lb9, gb9⟩ := run_app (P := Try.prog) wr.heap.size 26 26 29 iP (.agg (plV pl0)) 2 16 Try.underlying26 HIP.out HP0.out HP1.out HP2.out rfl (by decide) _ _ _ lb8 _ _ _ (HT2.out _ bb8) (by unfold maxLen; omega) (by omega) bb8.size
          have BB2 := Lib.hid bb2
          have BB8 := Lib.hid bb8
          have BB9 := Lib.hid (bb8.trans (own_below lb8 gb9 bb8.size))
          have RB2 := Lib.hid rb2
          have RB8 := Lib.hid rb8
          have RB9 := Lib.hid rb9
          have LB9 := Lib.hid (show ∃ v', Ending.returned vb9 = Ending.returned v' ∧ (Pls wb9 wb9.heap.size v' (putP l ⟨pc, pg⟩) ∧ Shp v' ∧ OldNew w (.slice (some ⟨b, o, none⟩) k c) v') ∧ Below w.heap.size w wb9 from by
            refine ⟨_, rfl, ⟨?_, Shp.own lb9, .inr (own_new lb9 HBW.out.size)⟩, HBW.out.trans (BB9.out.mono HBW.out.size)⟩
            refine Pls.of_own (l := putP l ⟨pc, pg⟩) (by rw [HCUT.out, flatP_append, flatP_append]; exact lb9) (by rw [HCUT.out, List.length_append, List.length_append, List.length_take, List.length_drop, HN.out]; simp <;> omega))
          clear rb2 rb8 rb9 bb2 bb8 lb8 lb9 gb9
          obtain ⟨vc2, wc2, vc8, wc8, rc2, rc8, bc2, bc8, lc8⟩ := app_c (P := Try.prog) (wr := wr) 26 26 26 29 iP (.agg (plV pl0)) 2 16 Try.underlying26 HIP.out HP0.out HP1.out HP2.out rfl (by decide) _ _ HQ1.out HQ2.out _ HT1.out [.int .i64 pc, .int .i64 pg] HU.out HU1.out
          obtain ⟨vc9, wc9, rc9, lc9, gc9⟩ := run_app (P := Try.prog) wr.heap.size 26 26 29 iP (.agg (plV pl0)) 2 16 Try.underlying26 HIP.out HP0.out HP1.out HP2.out rfl (by decide) _ _ _ lc8 _ _ _ (HT2.out _ bc8) (by unfold maxLen; omega) (by omega) bc8.size
          have BC2 := Lib.hid bc2
          have BC8 := Lib.hid bc8
          have BC9 := Lib.hid (bc8.trans (own_below lc8 gc9 bc8.size))
          have RC2 := Lib.hid rc2
          have RC8 := Lib.hid rc8
          have RC9 := Lib.hid rc9
          have LC9 := Lib.hid (show ∃ v', Ending.returned vc9 = Ending.returned v' ∧ (Pls wc9 wc9.heap.size v' (putP l ⟨pc, pg⟩) ∧ Shp v' ∧ OldNew w (.slice (some ⟨b, o, none⟩) k c) v') ∧ Below w.heap.size w wc9 from by
            refine ⟨_, rfl, ⟨?_, Shp.own lc9, .inr (own_new lc9 HBW.out.size)⟩, HBW.out.trans (BC9.out.mono HBW.out.size)⟩
            refine Pls.of_own (l := putP l ⟨pc, pg⟩) (by rw [HCUT.out, flatP_append, flatP_append]; exact lc9) (by rw [HCUT.out, List.length_append, List.length_append, List.length_take, List.length_drop, HN.out]; simp <;> omega))
          clear rc2 rc8 rc9 bc2 bc8 lc8 lc9 gc9
          have HCL := Lib.hid (show ∀ w', Below wr.heap.size wr w' → w'.cell? ⟨g3, 0, none⟩ = some (.int .i64 pc) ∧ w'.cell? ⟨g3, 1, none⟩ = some (.int .i64 pg) ∧ Below wr.heap.size wr w' from fun w' hw' => ⟨(HKW.out.below hw' HKW.out.lt).cell 0, (HKW.out.below hw' HKW.out.lt).cell 1, hw'⟩)
          have BR := Lib.hid (Below.refl wr.heap.size wr)
          have BS := Lib.hid (Nat.le_refl wr.heap.size)
          clear hiP hp0 hp1 hp2
          go_region_held3 (fun w' => w'.cell? ⟨g3, 0, none⟩ = some (.int .i64 pc) ∧ w'.cell? ⟨g3, 1, none⟩ = some (.int .i64 pg) ∧ Below wr.heap.size wr w')
            (first
              | assumption
              | exact HCL.out _ BR.out.drew
              | exact HCL.out _ (BR.out.alloc BS.out _).drew
              | exact HCL.out _ ((BR.out.alloc BS.out _).alloc (by simp) _).drew
              | exact HCL.out _ BA2.out
              | exact HCL.out _ BB2.out
              | exact HCL.out _ BC2.out
              | exact HCL.out _ (BA2.out.alloc BA2.out.size _)
              | exact HCL.out _ BA8.out
              | exact HCL.out _ BB8.out
              | exact HCL.out _ BC8.out
              | exact HCL.out _ BA9.out
              | exact HCL.out _ BB9.out
              | exact HCL.out _ BC9.out)
            (first
              | (with_reducible refine step_append_run rfl (.tmp 55) (.tmp 58) 26 rfl (.slice (some ⟨wr.heap.size, 0, none⟩) 0 0) (.slice (some ⟨b, o, none⟩) k c) rfl rfl _ _ RA2.out ?_)
              | (with_reducible refine step_append_run rfl (.tmp 55) (.tmp 58) 26 rfl (.slice (some ⟨wr.heap.size, 0, none⟩) 0 0) (.slice (some ⟨b, o, none⟩) k c) rfl rfl _ _ RB2.out ?_)
              | (with_reducible refine step_append_run rfl (.tmp 55) (.tmp 58) 26 rfl (.slice (some ⟨wr.heap.size + 1, 0, none⟩) 0 0) (.slice (some ⟨b, o, none⟩) k c) rfl rfl _ _ RC2.out ?_)
              | (with_reducible refine step_append_run rfl (.tmp 59) (.tmp 61) 26 rfl va2 (.slice (some ⟨wa2.heap.size, 0, none⟩) 1 1) rfl rfl _ _ RA8.out ?_)
              | (with_reducible refine step_append_run rfl (.tmp 59) (.tmp 61) 26 rfl vb2 (.slice (some ⟨wr.heap.size + 1, 0, none⟩) 1 1) rfl rfl _ _ RB8.out ?_)
              | (with_reducible refine step_append_run rfl (.tmp 59) (.tmp 61) 26 rfl vc2 (.slice (some ⟨wr.heap.size, 0, none⟩) 1 1) rfl rfl _ _ RC8.out ?_)
              | (with_reducible refine step_append_run rfl (.tmp 62) (.tmp 65) 26 rfl va8 (.slice (some ⟨b, o + k * 2, none⟩) 0 c2) rfl rfl _ _ RA9.out ?_)
              | (with_reducible refine step_append_run rfl (.tmp 62) (.tmp 65) 26 rfl vb8 (.slice (some ⟨b, o + k * 2, none⟩) 0 c2) rfl rfl _ _ RB9.out ?_)
              | (with_reducible refine step_append_run rfl (.tmp 62) (.tmp 65) 26 rfl vc8 (.slice (some ⟨b, o + k * 2, none⟩) 0 c2) rfl rfl _ _ RC9.out ?_))
          all_goals
            go_wp2
            go_ret
            first
              | exact LA9.out
              | exact LB9.out
              | exact LC9.out
end Go.Proofs.Ythfcmfhmaokioaa
