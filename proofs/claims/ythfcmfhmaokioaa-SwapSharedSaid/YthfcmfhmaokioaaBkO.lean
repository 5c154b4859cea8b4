/-
  The document's own Out.
  Conditions: the places are read in memory.
-/
import Derived.Test.YthfcmfhmaokioaaBkR
namespace Go.Proofs.Ythfcmfhmaokioaa
open Go.RowKit
set_option linter.unusedVariables false

set_option maxRecDepth 20000 in
set_option maxHeartbeats 6400000 in
theorem refOut_any (v : Value) (l : List Pl) (p : Pl) (w : World) (h : Pls w w.heap.size v l) (hs : Shp v) (hm : l.length ≤ 100000) :
    Calls Try.prog 12 #[v, .agg #[.int .i64 p.c, .int .i64 p.g]] w fun e w' => ∃ v', e = .returned (.tuple #[v', .bool (decide (p ∈ l))]) ∧ (Pls w' w'.heap.size v' (l.erase p) ∧ Shp v' ∧ OldNew w v v') ∧ Below w.heap.size w w' := by
  obtain ⟨pc, pg⟩ := p
  have HP := Lib.hid h
  obtain ⟨A, n, c, rfl, hn, hnc, hc, _, hx⟩ := h
  have HSH := Lib.hid hs
  have HX := Lib.hid hx
  have HN := Lib.hid hn
  have hn1 : n ≤ 100000 := by omega
  unfold maxLen at hc
  have HB := Lib.hid (belAl (Below.refl w.heap.size w) (.cells #[.int .i64 pc, .int .i64 pg] 29))
  have HK := Lib.hid (Blk.new w 29 #[.int .i64 pc, .int .i64 pg])
  obtain ⟨g3, hg3⟩ : ∃ g3, g3 = w.heap.size := ⟨_, rfl⟩
  clear hn hx hm hs
  go_enter Try.func12, Try.ntmps12
  go_wp2_with fail
  obtain ⟨W1, hW1⟩ : ∃ W1, W1 = w.alloc (.cells #[.int .i64 pc, .int .i64 pg] 29) := ⟨_, rfl⟩
  rw [← hW1] at HB HK ⊢
  rw [← hg3] at HK ⊢
  have HG := Lib.hid hg3
  clear hW1 hg3
  go_loopg [6] (n - 0) (fun gg s6 wx => ∃ k m : Nat, k + gg = n ∧ s6 = .int .i64 (k : Int) ∧ wx = W1.drewN m ∧ ∀ j, j < k → l[j]? ≠ some ⟨pc, pg⟩)
  case atStart => exact ⟨0, 0, by omega, rfl, rfl, fun j hj => absurd hj (Nat.not_lt_zero _)⟩
  case round =>
    obtain ⟨k, m, hk, rfl, rfl, hno⟩ := hrel
    have HNO := Lib.hid hno
    have k0 := HK.out.cell 0
    have k1 := HK.out.cell 1
    clear hno
    by_cases hlt : k < n
    · obtain ⟨b, o, rfl, hb, hce⟩ := HX.out (by omega)
      obtain ⟨d0, d1⟩ := hce k hlt
      obtain ⟨⟨x1, x2⟩, hxx⟩ : ∃ x, x = l.getD k pl0 := ⟨_, rfl⟩
      rw [← hxx] at d0 d1
      have HXX := Lib.hid (show l[k]? = some ⟨x1, x2⟩ from by
        rw [List.getElem?_eq_getElem (by have := HN.out; omega), hxx, List.getD_eq_getElem?_getD, List.getElem?_eq_getElem (by have := HN.out; omega)]
        rfl)
      replace d0 : W1.cell? ⟨b, o + k * 2, none⟩ = some (.int .i64 x1) := (HB.out.cell (p := ⟨b, o + k * 2, none⟩) hb).trans d0
      replace d1 : W1.cell? ⟨b, o + k * 2 + 1, none⟩ = some (.int .i64 x2) := (HB.out.cell (p := ⟨b, o + k * 2 + 1, none⟩) hb).trans d1
      clear hce hxx
      have u0 : decide ((k : Int) < (n : Int)) = true := decide_eq_true (by omega)
      by_cases c1 : x1 = pc ∧ x2 = pg
      · obtain ⟨rfl, rfl⟩ := c1
        obtain ⟨k1n, hk1⟩ : ∃ k1n, k1n = k + 1 := ⟨_, rfl⟩
        have HK1 := Lib.hid hk1
        have e0 : (k : Int) + 1 = (k1n : Int) := by omega
        have e0w : IntKind.i64.wrap ((k : Int) + 1) = (k1n : Int) := by rw [IntKind.wrap_i64]; omega
        have e0x : IntKind.i64.wrap (k1n : Int) = (k1n : Int) := by rw [IntKind.wrap_i64]; omega
        have e6 : (0 : Int) ≤ (k : Int) := by omega
        have e7 : (k1n : Int) ≤ (n : Int) := by omega
        have e8 : (k : Int) ≤ (c : Int) := by omega
        have e9 : (k1n : Int) ≤ (c : Int) := by omega
        have e10 : (0 : Int) ≤ (k1n : Int) := by omega
        have ek : k1n ≤ 100001 := by omega
        have ed : k ≤ c := by omega
        have ee : k1n ≤ n := by omega
        have ef : c ≠ 0 := by omega
        obtain ⟨r, hr⟩ : ∃ r, r = n - k1n := ⟨_, rfl⟩
        have e1 : n - k1n = r := hr.symm
        have e3 : (n : Int) - (k1n : Int) = (r : Int) := by omega
        have e5 : k1n + r = n := by omega
        have ei : k + r ≤ 100000 := by omega
        clear hr hk1
        by_cases hkc : c = k1n
        · have hr0 : r = 0 := by omega
          obtain rfl : n = k1n := by omega
          have hkd := hkc.symm
          subst hkd
          subst hr0
          go_wp2
          go_quiet (fail)
          obtain ⟨q1, rfl⟩ : ∃ q1, q1 = nq := ⟨_, rfl⟩
          go_wp2_with fail
          generalize hwr : (W1.drewN m).drewN q1 = wr
          have HBW := Lib.hid (show Below w.heap.size w wr from hwr ▸ below_drewN (below_drewN HB.out _) _)
          clear hwr k0 k1 d0 d1
          obtain ⟨iP, hiP, hp0, hp1, hp2⟩ := info_parts Try.infoPlT
          have HIP := Lib.hid hiP
          have HP0 := Lib.hid hp0
          have HP1 := Lib.hid hp1
          have HP2 := Lib.hid hp2
          have HPW := Lib.hid (HP.out.fresh HBW.out)
          have HT1 := Lib.hid (fun (W : World) (hW : Below wr.heap.size wr W) => (HPW.out.below hW).take k (by omega))
          have HT2 := Lib.hid (fun (W : World) (hW : Below wr.heap.size wr W) => (by rw [List.drop_of_length_le (by rw [HN.out]; exact Nat.le_refl _)]; exact Rd.zero _ _ _ _ : Rd W 2 (.slice (some ⟨b, o, none⟩) 0 0) 0 (flatP (l.drop n))))
          have HQ1 := Lib.hid (show k + 1 ≤ maxLen from by unfold maxLen; omega)
          have HQ2 := Lib.hid (show (k + 1) * 16 ≤ 140737488355328 from by omega)
          have BR := Lib.hid (Below.refl wr.heap.size wr)
          have BS := Lib.hid (Nat.le_refl wr.heap.size)
          have o1 : (wr.alloc (.cells #[] 29)).drew.ownsRow wr.heap.size 29 2 (.slice (some ⟨wr.heap.size, 0, none⟩) 0 0) 0 [] := World.ownsRow_lit wr #[] 0 (Nat.le_refl _) (by simp [maxLen]) (by simp)
          obtain ⟨v2, w2, r2, b2, o2, g2⟩ := app_first (P := Try.prog) (wr := wr) 26 26 29 iP (.agg (plV pl0)) 2 16 Try.underlying26 HIP.out HP0.out HP1.out HP2.out rfl (by decide) _ _ HQ1.out HQ2.out _ HT1.out (BR.out.alloc BS.out _).drew o1
          obtain ⟨v9, w9, r9, l9, g9⟩ := run_app (P := Try.prog) wr.heap.size 26 26 29 iP (.agg (plV pl0)) 2 16 Try.underlying26 HIP.out HP0.out HP1.out HP2.out rfl (by decide) _ _ _ o2 _ _ _ (HT2.out _ b2) (by unfold maxLen; omega) (by omega) b2.size
          have HCUT := Lib.hid (show l.erase ⟨x1, x2⟩ = l.take k ++ l.drop n from by rw [HK1.out]; exact erase_at HXX.out HNO.out)
          have B2 := Lib.hid b2
          have B9 := Lib.hid (b2.trans (own_below o2 g9 b2.size))
          have R2 := Lib.hid r2
          have R9 := Lib.hid r9
          have L9 := Lib.hid (show ∃ v', Ending.returned (.tuple #[v9, .bool true]) = Ending.returned (.tuple #[v', .bool (decide ((⟨x1, x2⟩ : Pl) ∈ l))]) ∧ (Pls w9 w9.heap.size v' (l.erase ⟨x1, x2⟩) ∧ Shp v' ∧ OldNew w (.slice (some ⟨b, o, none⟩) n n) v') ∧ Below w.heap.size w w9 from by
            refine ⟨v9, by rw [decide_eq_true (List.mem_of_getElem? HXX.out)], ⟨?_, Shp.own l9, .inr (own_new l9 HBW.out.size)⟩, HBW.out.trans (B9.out.mono HBW.out.size)⟩
            refine Pls.of_own (l := l.erase ⟨x1, x2⟩) (by rw [HCUT.out, flatP_append]; exact l9) (by rw [HCUT.out, List.length_append, List.length_take, List.length_drop, HN.out]; first | omega | (simp <;> omega)))
          clear r2 r9 b2 o1 o2 g2 l9 g9 hiP hp0 hp1 hp2
          go_region_held3 (fun w' => Below wr.heap.size wr w')
            (first
              | assumption
              | exact BR.out.drew
              | exact (BR.out.alloc BS.out _).drew
              | exact B2.out
              | exact B9.out)
            (first
              | (with_reducible refine step_append_run rfl (.tmp 19) (.tmp 22) 26 rfl (.slice (some ⟨wr.heap.size, 0, none⟩) 0 0) (.slice (some ⟨b, o, none⟩) k n) rfl rfl _ _ R2.out ?_)
              | (with_reducible refine step_append_run rfl (.tmp 23) (.tmp 27) 26 rfl v2 (.slice (some ⟨b, o, none⟩) 0 0) rfl rfl _ _ R9.out ?_))
          go_wp2
          go_ret2
          exact L9.out
        · obtain ⟨c2, hc2⟩ : ∃ c2, c2 = c - k1n := ⟨_, rfl⟩
          have e2 : c - k1n = c2 := hc2.symm
          have e4 : (c : Int) - (k1n : Int) = (c2 : Int) := by omega
          have eb : k1n ≠ c := fun h => hkc h.symm
          have ec : ¬ ((c : Int) = (k1n : Int)) := by omega
          clear hc2
          go_wp2
          go_quiet (fail)
          obtain ⟨q1, rfl⟩ : ∃ q1, q1 = nq := ⟨_, rfl⟩
          go_wp2_with fail
          generalize hwr : (W1.drewN m).drewN q1 = wr
          have HBW := Lib.hid (show Below w.heap.size w wr from hwr ▸ below_drewN (below_drewN HB.out _) _)
          clear hwr k0 k1 d0 d1
          obtain ⟨iP, hiP, hp0, hp1, hp2⟩ := info_parts Try.infoPlT
          have HIP := Lib.hid hiP
          have HP0 := Lib.hid hp0
          have HP1 := Lib.hid hp1
          have HP2 := Lib.hid hp2
          have HPW := Lib.hid (HP.out.fresh HBW.out)
          have HT1 := Lib.hid (fun (W : World) (hW : Below wr.heap.size wr W) => (HPW.out.below hW).take k (by omega))
          have HT2 := Lib.hid (fun (W : World) (hW : Below wr.heap.size wr W) => ((HPW.out.below hW).drop k1n r e5 c2 : Rd W 2 (.slice (some ⟨b, o + k1n * 2, none⟩) r c2) r (flatP (l.drop k1n))))
          have HQ1 := Lib.hid (show k + 1 ≤ maxLen from by unfold maxLen; omega)
          have HQ2 := Lib.hid (show (k + 1) * 16 ≤ 140737488355328 from by omega)
          have BR := Lib.hid (Below.refl wr.heap.size wr)
          have BS := Lib.hid (Nat.le_refl wr.heap.size)
          have o1 : (wr.alloc (.cells #[] 29)).drew.ownsRow wr.heap.size 29 2 (.slice (some ⟨wr.heap.size, 0, none⟩) 0 0) 0 [] := World.ownsRow_lit wr #[] 0 (Nat.le_refl _) (by simp [maxLen]) (by simp)
          obtain ⟨v2, w2, r2, b2, o2, g2⟩ := app_first (P := Try.prog) (wr := wr) 26 26 29 iP (.agg (plV pl0)) 2 16 Try.underlying26 HIP.out HP0.out HP1.out HP2.out rfl (by decide) _ _ HQ1.out HQ2.out _ HT1.out (BR.out.alloc BS.out _).drew o1
          obtain ⟨v9, w9, r9, l9, g9⟩ := run_app (P := Try.prog) wr.heap.size 26 26 29 iP (.agg (plV pl0)) 2 16 Try.underlying26 HIP.out HP0.out HP1.out HP2.out rfl (by decide) _ _ _ o2 _ _ _ (HT2.out _ b2) (by unfold maxLen; omega) (by omega) b2.size
          have HCUT := Lib.hid (show l.erase ⟨x1, x2⟩ = l.take k ++ l.drop k1n from by rw [HK1.out]; exact erase_at HXX.out HNO.out)
          have B2 := Lib.hid b2
          have B9 := Lib.hid (b2.trans (own_below o2 g9 b2.size))
          have R2 := Lib.hid r2
          have R9 := Lib.hid r9
          have L9 := Lib.hid (show ∃ v', Ending.returned (.tuple #[v9, .bool true]) = Ending.returned (.tuple #[v', .bool (decide ((⟨x1, x2⟩ : Pl) ∈ l))]) ∧ (Pls w9 w9.heap.size v' (l.erase ⟨x1, x2⟩) ∧ Shp v' ∧ OldNew w (.slice (some ⟨b, o, none⟩) n c) v') ∧ Below w.heap.size w w9 from by
            refine ⟨v9, by rw [decide_eq_true (List.mem_of_getElem? HXX.out)], ⟨?_, Shp.own l9, .inr (own_new l9 HBW.out.size)⟩, HBW.out.trans (B9.out.mono HBW.out.size)⟩
            refine Pls.of_own (l := l.erase ⟨x1, x2⟩) (by rw [HCUT.out, flatP_append]; exact l9) (by rw [HCUT.out, List.length_append, List.length_take, List.length_drop, HN.out]; first | omega | (simp <;> omega)))
          clear r2 r9 b2 o1 o2 g2 l9 g9 hiP hp0 hp1 hp2
          go_region_held3 (fun w' => Below wr.heap.size wr w')
            (first
              | assumption
              | exact BR.out.drew
              | exact (BR.out.alloc BS.out _).drew
              | exact B2.out
              | exact B9.out)
            (first
              | (with_reducible refine step_append_run rfl (.tmp 19) (.tmp 22) 26 rfl (.slice (some ⟨wr.heap.size, 0, none⟩) 0 0) (.slice (some ⟨b, o, none⟩) k c) rfl rfl _ _ R2.out ?_)
              | (with_reducible refine step_append_run rfl (.tmp 23) (.tmp 27) 26 rfl v2 (.slice (some ⟨b, o + k1n * 2, none⟩) r c2) rfl rfl _ _ R9.out ?_))
          go_wp2
          go_ret2
          exact L9.out
      · have HNX := Lib.hid (show ∀ j, j < k + 1 → l[j]? ≠ some ⟨pc, pg⟩ from fun j hj e => by
          by_cases ej : j = k
          · subst ej
            rw [HXX.out] at e
            injection e with e
            injection e with e1 e2
            exact c1 ⟨e1, e2⟩
          · exact HNO.out j (by omega) e)
        by_cases c2 : x1 = pc
        · subst c2
          have c3 : x2 ≠ pg := fun e => c1 ⟨rfl, e⟩
          have u2 : (x2 == pg) = false := by simp [c3]
          clear c1
          go_wp2
          go_quiet (fail)
          go_wp2
          go_roundg (n - (k + 1))
          case measure => omega
          case rel => exact ⟨k + 1, m + nq, by omega, by go_num, rfl, HNX.out⟩
        · have u2 : (x1 == pc) = false := by simp [c2]
          clear c1
          go_wp2
          go_quiet (fail)
          go_wp2
          go_roundg (n - (k + 1))
          case measure => omega
          case rel => exact ⟨k + 1, m + nq, by omega, by go_num, rfl, HNX.out⟩
    · obtain rfl : k = n := by omega
      have u0 : decide ((k : Int) < (k : Int)) = false := decide_eq_false (by omega)
      have HNI := Lib.hid (show (⟨pc, pg⟩ : Pl) ∉ l from fun h => by
        obtain ⟨j, hj, e⟩ := List.getElem_of_mem h
        exact HNO.out j (by rw [← HN.out]; exact hj) (by rw [List.getElem?_eq_getElem hj, e]))
      go_wp2
      go_ret2
      refine ⟨_, by rw [decide_eq_false HNI.out]; rfl, ⟨?_, HSH.out, .inl rfl⟩, below_drewN HB.out _⟩
      rw [List.erase_of_not_mem HNI.out]
      exact HP.out.fresh (below_drewN HB.out _)
end Go.Proofs.Ythfcmfhmaokioaa
