/-
  The contract of slot's read: what the slot has whose head is a sector, and whether it is whole; or the first work that fails.
  Conditions: the disk is known whole and has the slots' sectors.
-/
import Derived.Test.YtckabekimdcdcaaSlotC
import Derived.Deep.RegionHeld3
import Derived.Deep.RegionWith
import Derived.BigQuiet
namespace Go.Proofs.Ytckabekimdcdcaa
open Go.RowKit
set_option linter.unusedVariables false

theorem results_tmp4 {fn : Func} {t u v x : Tmp} (h : fn.results = #[.tmp t, .tmp u, .tmp v, .tmp x]) (tmps : Array Value) (P : Program) (w : World) :
    (results fn tmps).run P w = .ok (.tuple #[tmps.getD t undef, tmps.getD u undef, tmps.getD v undef, tmps.getD x undef]) w := by simp [results, h]
theorem own_lower {w : World} {base base' : Nat} {e : TypeId} {v : Value} {n : Nat} {xs : List Value} (h : w.ownsRow base e 1 v n xs) (hb : base' ≤ base) : w.ownsRow base' e 1 v n xs := by
  refine ⟨h.1, ?_⟩
  rcases h.2 with h2 | ⟨g, cap, cur, h4, h5, h6⟩
  · exact .inl h2
  · exact .inr ⟨g, cap, cur, h4, by omega, h6⟩
theorem own_below {w w' : World} {base B : Nat} {e : TypeId} {v : Value} {n : Nat} {xs : List Value} (h : w.ownsRow base e 1 v n xs) (ht : Below B w w') (hB : w.heap.size ≤ B) : w'.ownsRow base e 1 v n xs :=
  own_turns (M := fun _ => False) h (fun _ hk => hk.elim) (Turns.of_below ht hB)
theorem tn_next (t : Tr) (k : Nat) : tn t.next k = tn t (k + 1) := by
  induction k with
  | zero => rfl
  | succ k ih => rw [tn, ih]; rfl
/-- The sum of two parts that were just laid in a block. -/
theorem sum_two (w : World) (g B : Nat) (u1 u2 : Value) (xs ys : List Nat) (hc0 : w.cell? ⟨g, 0, none⟩ = some u1) (hc1 : w.cell? ⟨g, 1, none⟩ = some u2) (h1 : Bts w B u1 xs) (h2 : Bts w B u2 ys) :
    Calls Try.prog 49 #[.slice (some ⟨g, 0, none⟩) 2 2] w fun e w' => e = .returned (.int .u32 ((sumM (xs ++ ys) : Nat) : Int)) ∧ w = w' := by
  rw [← sumU_eq]
  have := sum_any (.slice (some ⟨g, 0, none⟩) 2 2) [xs, ys] B w ⟨_, 2, 2, rfl, rfl, by simp [maxLen], fun _ => ⟨g, 0, rfl, fun j hj => ?_⟩⟩
  · simpa using this
  · match j, hj with
    | 0, _ => exact ⟨u1, hc0, h1⟩
    | 1, _ => exact ⟨u2, hc1, h2⟩

/-- What holds while a slot's sum is reckoned. -/
def TwoS (w : World) (B : Nat) (v : Value) (s : List Nat) (v2 : Value) (b : List Nat) (w' : World) : Prop := Bts w' B v s ∧ Bts w' B v2 b ∧ Below w.heap.size w w'
theorem TwoS.one {w w' : World} {B : Nat} {v v2 : Value} {s b : List Nat} (h : TwoS w B v s v2 b w') : Bts w' B v s := h.1
theorem TwoS.two {w w' : World} {B : Nat} {v v2 : Value} {s b : List Nat} (h : TwoS w B v s v2 b w') : Bts w' B v2 b := h.2.1
theorem TwoS.below {w w' : World} {B : Nat} {v v2 : Value} {s b : List Nat} (h : TwoS w B v s v2 b w') : Below w.heap.size w w' := h.2.2
theorem TwoS.start {w : World} {B : Nat} {v v2 : Value} {s b : List Nat} (h : Bts w B v s) (h2 : Bts w B v2 b) : TwoS w B v s v2 b w.drew := ⟨h, h2, (Below.refl _ _).drew⟩
theorem TwoS.alloc {w w' : World} {B : Nat} {v v2 : Value} {s b : List Nat} (h : TwoS w B v s v2 b w') (hB : B ≤ w.heap.size) (o : Obj) : TwoS w B v s v2 b (w'.alloc o) :=
  have k : ∀ p : Addr, p.block < B → (w'.alloc o).cell? p = w'.cell? p := fun p hp => World.cell?_alloc_lt w' o p (Nat.lt_of_lt_of_le hp (Nat.le_trans hB h.2.2.size))
  ⟨h.1.keep k, h.2.1.keep k, h.2.2.alloc h.2.2.size o⟩

/-- What read leaves. -/
def SReadPost (w : World) (gD gS gM n : Nat) (S : Nat → List Nat) (L : Nat → Option (List Nat)) (t : Tr) (x : Nat) (e : Ending) (w' : World) : Prop :=
  Turns (dk gD gS gM) w w' ∧ ∃ k, k ≤ 16 ∧ (∀ j, j < k → (tn t j).ans = 0) ∧
    ((1 ≤ k ∧ Dsk w' gD gS gM n S L (tn t k) ∧
        ((Whole (last S L) x ∧ ∃ v, e = .returned (.tuple #[.int .u32 ((sloG (last S L) x : Nat) : Int), v, .bool true, .int .i64 0]) ∧ w'.ownsRow w.heap.size 5 1 v (sloN (last S L) x) ((sloB (last S L) x).map bv)) ∨
         (¬ Whole (last S L) x ∧ e = .returned (.tuple #[.int .u32 0, .slice none 0 0, .bool false, .int .i64 0])))) ∨
     ((tn t k).ans ≠ 0 ∧ e = .returned (.tuple #[.int .u32 0, .slice none 0 0, .bool false, .int .i64 ((tn t k).ans : Nat)]) ∧ Dsk w' gD gS gM n S L (tn t (k + 1))))

set_option maxRecDepth 20000 in
set_option maxHeartbeats 1600000 in
theorem read_any (gD gS gM n : Nat) (S : Nat → List Nat) (L : Nat → Option (List Nat)) (t : Tr) (x : Nat) (w : World) (h : Dsk w gD gS gM n S L t) (hn : 96 ≤ n) (hx : x < 2) :
    Calls Try.prog 33 #[.pointer (some ⟨gD, 0, none⟩), .int .i64 ((64 + 16 * x : Nat) : Int)] w (SReadPost w gD gS gM n S L t x) := by
  have HD := Lib.hid h
  have HLL := Lib.hid (fun f (hf : f < 96) => h.last_ (show f < n by omega))
  have HWI := Lib.hid (whole_iff (F := last S L) (w := x) (fun f h1 h2 => (HLL.out f (by omega)).1) (HLL.out _ (by omega)).2)
  have hGlt := sloG_lt (F := last S L) (w := x) (HLL.out _ (by omega)).2
  have hNlt := sloN_lt (F := last S L) (w := x) (HLL.out _ (by omega)).2
  obtain ⟨a, ha⟩ : ∃ a, a = 64 + 16 * x := ⟨_, rfl⟩
  obtain ⟨s, hs⟩ : ∃ s, s = last S L a := ⟨_, rfl⟩
  have HSL := Lib.hid (show s.length = 64 by rw [hs]; exact (HLL.out a (by omega)).1)
  have HSB := Lib.hid (show ∀ y ∈ s, y < 256 by rw [hs]; exact (HLL.out a (by omega)).2)
  obtain ⟨g, hg⟩ : ∃ g, g = sloG (last S L) x := ⟨_, rfl⟩
  obtain ⟨N, hN⟩ : ∃ N, N = sloN (last S L) x := ⟨_, rfl⟩
  have HG1 := Lib.hid (show le (win s 0 4) = g by rw [hg, hs, ha]; rfl)
  have HN1 := Lib.hid (show le (win s 4 4) = N by rw [hN, hs, ha]; rfl)
  rw [← ha, ← hs, ← hg, ← hN] at HWI
  rw [← hg] at hGlt
  rw [← hN] at hNlt
  have han : a + 16 ≤ n := by omega
  have ha5 : a ≤ 80 := by omega
  have HA := Lib.hid ha
  have HS := Lib.hid hs
  have HG := Lib.hid hg
  have HN := Lib.hid hN
  rw [← ha]
  clear h hn ha hs hg hN
  go_enter Try.func33, Try.ntmps33
  by_cases c1 : t.ans = 0
  · go_wp2_with fail
    refine (dread_yes gD gS gM n S L t a w HD.out (by omega) c1).mono ?_
    rintro e w2 ⟨rfl, hb2, hd2, ht2, hs2⟩
    rw [← HS.out] at hb2
    have HD2 := Lib.hid hd2
    have HT2 := Lib.hid ht2
    have BK2 := Lib.hid hb2
    have X2 := Lib.hid (Bts.of_whole hb2 HSL.out (by simp [maxLen]) HSB.out)
    have HC1 := Lib.hid c1
    clear hb2 hd2 ht2 hs2 c1
    go_wp2_with fail
    refine (snumber_any _ s _ 0 _ X2.out (by rw [HSL.out]; omega) HSB.out).mono ?_
    rintro e w3 ⟨rfl, rfl⟩
    rw [HG1.out]
    go_wp2_with fail
    refine (snumber_any _ s _ 4 _ X2.out (by rw [HSL.out]; omega) HSB.out).mono ?_
    rintro e w3 ⟨rfl, rfl⟩
    rw [HN1.out]
    obtain ⟨o, ho⟩ : ∃ o, o = 64 + 16 * (g % 2) := ⟨_, rfl⟩
    have HOF := Lib.hid (headOf_any g w2 hGlt)
    rw [← ho] at HOF
    have HO := Lib.hid ho
    clear ho
    have NO := Lib.hid (fun (hnw : ¬ Whole (last S L) x) (w9 : World) (ht9 : Turns (dk gD gS gM) w2 w9) (hd9 : Dsk w9 gD gS gM n S L (tn t 1)) =>
      (show SReadPost w gD gS gM n S L t x (.returned (.tuple #[.int .u32 0, .slice none 0 0, .bool false, .int .i64 0])) w9 from
        ⟨HT2.out.trans ht9, 1, by omega, fun j hj => by obtain rfl : j = 0 := (by omega); exact HC1.out, .inl ⟨Nat.le_refl _, hd9, .inr ⟨hnw, rfl⟩⟩⟩))
    by_cases k1 : o = a
    · have d1 : ((o : Int) != (a : Int)) = false := by simp [k1]
      have K1 := Lib.hid k1
      clear k1
      by_cases k2 : N ≤ 960
      · have d2 : decide (960 < (N : Int)) = false := decide_eq_false (by omega)
        have e12 : s.drop 12 = win s 12 52 := by
          unfold win
          rw [List.take_of_length_le (by simp [HSL.out])]
        have XC := Lib.hid (show Bts w2 w2.heap.size (.slice (some ⟨w.heap.size + 1, 12, none⟩) 52 52) (s.drop 12) from by
          rw [e12]
          exact X2.out.cut (a := 12) (k := 52) (c' := 52) (by omega) (by omega) (by simp [maxLen]))
        have HZ := Lib.hid (empty_any _ _ _ w2 XC.out)
        obtain ⟨z, hz⟩ : ∃ z, z = allZ (s.drop 12) := ⟨_, rfl⟩
        rw [← hz] at HZ
        have HZE := Lib.hid hz
        clear hz e12
        cases z with
        | false =>
          go_wp2_with (first | (go_at_call 34; refine HOF.out.mono ?_; rintro e w3 ⟨rfl, rfl⟩) | (go_at_call 47; refine HZ.out.mono ?_; rintro e w3 ⟨rfl, rfl⟩))
          refine bodyPost_ret (results_tmp4 rfl _ _ _) rfl ?_
          refine NO.out (fun hw => ?_) _ (Turns.refl _ _) HD2.out
          have h3 := (HWI.out.1 hw).2.2.1
          exact absurd HZE.out (by unfold allZ; simp; exact h3)
        | true =>
          have HCON := Lib.hid (content_any gD gS gM n S L t.next (a + 1) N w2 HD2.out (by omega) k2)
          rw [show ((a + 1 : Nat) : Int) = (a : Int) + 1 by omega] at HCON
          go_wp2_with (first | (go_at_call 34; refine HOF.out.mono ?_; rintro e w3 ⟨rfl, rfl⟩) | (go_at_call 47; refine HZ.out.mono ?_; rintro e w3 ⟨rfl, rfl⟩))
          refine HCON.out.mono ?_
          rintro e w3 ⟨ht3, k, hk, ⟨hk1, ⟨v, rfl, ho3⟩, hd3⟩ | ⟨hk1, hk2, rfl, hd3⟩⟩
          · obtain ⟨A5, c5, rfl⟩ := own_any ho3
            obtain ⟨b, hb⟩ : ∃ b, b = (flatN (last S L) (a + 1) 15).take N := ⟨_, rfl⟩
            rw [← hb] at ho3
            have HB := Lib.hid (show b = sloB (last S L) x by rw [hb, HN.out, HA.out, show 64 + 16 * x + 1 = 65 + 16 * x by omega]; rfl)
            have HBB := Lib.hid (show ∀ y ∈ b, y < 256 from fun y hy => by
              rw [hb] at hy
              exact flatN_byte (fun j hj => (HLL.out (a + 1 + j) (by omega)).2) y (List.mem_of_mem_take hy))
            have X3 := Lib.hid (show Bts w3 w3.heap.size (.slice (some ⟨w.heap.size + 1, 0, none⟩) 64 64) s from Bts.of_whole (ht3.blk BK2.out (by rintro (e | e | e) <;> (have := HD.out.lt; omega))) HSL.out (by simp [maxLen]) HSB.out)
            have Y3 := Lib.hid (Bts.of_own ho3 HBB.out)
            have O3 := Lib.hid ho3
            have HD3 := Lib.hid hd3
            rw [tn_next] at HD3
            have HT3 := Lib.hid (HT2.out.trans ht3)
            have HTW := Lib.hid ht3
            have HK := Lib.hid hk
            have HK1 := Lib.hid hk1
            have hk15 : k ≤ 15 := by omega
            have B0 := Lib.hid (Nat.le_refl w3.heap.size)
            have HWS := Lib.hid (show ∀ j, j < k + 1 → (tn t j).ans = 0 from fun j hj => by
              rcases Nat.eq_zero_or_pos j with e | e
              · subst e; exact HC1.out
              · obtain ⟨i, rfl⟩ : ∃ i, j = i + 1 := ⟨j - 1, by omega⟩
                rw [← tn_next]
                exact hk i (by omega))
            obtain ⟨p, hp⟩ : ∃ p, p = le (win s 8 4) := ⟨_, rfl⟩
            obtain ⟨q, hq⟩ : ∃ q, q = sumM (s.take 8 ++ b) := ⟨_, rfl⟩
            have NZ := Lib.hid (fun (W : World) (hW : Bts W w3.heap.size (.slice (some ⟨w.heap.size + 1, 0, none⟩) 64 64) s) => snumber_any _ s _ 8 W hW (by rw [HSL.out]; omega) HSB.out)
            have NS := Lib.hid (fun (W : World) (g' : Nat) (hW : Bts W w3.heap.size (.slice (some ⟨w.heap.size + 1, 0, none⟩) 64 64) s) (hV : Bts W w3.heap.size (.slice A5 N c5) b) (hc0 : W.cell? ⟨g', 0, none⟩ = some (.slice (some ⟨w.heap.size + 1, 0, none⟩) 8 64)) (hc1 : W.cell? ⟨g', 1, none⟩ = some (.slice A5 N c5)) =>
              sum_two W g' _ _ _ (s.take 8) b hc0 hc1 (hW.front 8 (by omega)) hV)
            rw [← hp] at NZ
            rw [← hq] at NS
            have HP := Lib.hid hp
            have HQ := Lib.hid hq
            have FINW := Lib.hid (show q = p → Whole (last S L) x from fun e => HWI.out.2 ⟨by have := K1.out; have := HO.out; have := HA.out; omega, k2, by have := HZE.out; unfold allZ at this; simpa using this.symm, by rw [← HP.out, ← HB.out, ← HQ.out, e]⟩)
            have FINN := Lib.hid (show q ≠ p → ¬ Whole (last S L) x from fun e hw => e (by rw [HP.out, (HWI.out.1 hw).2.2.2, HQ.out, HB.out]))
            clear ht3 hk hk1 ho3 hd3 hb hp hq
            by_cases k3 : q = p
            · have d3 : ((p : Int) != (q : Int)) = false := by simp [k3]
              have K3 := Lib.hid k3
              clear k3
              go_wp2_with fail
              go_region_held3 (fun w' => TwoS w3 w3.heap.size (.slice (some ⟨w.heap.size + 1, 0, none⟩) 64 64) s (.slice A5 N c5) b w') (first | assumption | exact TwoS.start X3.out Y3.out | exact TwoS.alloc (by assumption) B0.out _)
                (first
                  | (go_at_call 46; refine (NZ.out _ (TwoS.one (by assumption))).mono ?_; rintro e w' ⟨rfl, rfl⟩)
                  | (go_at_call 49; refine (NS.out _ _ (TwoS.one (by assumption)) (TwoS.two (by assumption)) ?_ ?_).mono ?_; (simp); (simp); rintro e w' ⟨rfl, rfl⟩))
              all_goals
                go_wp2
                refine bodyPost_ret (results_tmp4 rfl _ _ _) rfl ?_
                have TW := fun (w' : World) (hz : TwoS w3 w3.heap.size (.slice (some ⟨w.heap.size + 1, 0, none⟩) 64 64) s (.slice A5 N c5) b w') => hz.below
                refine ⟨HT3.out.trans (Turns.of_below (TW _ (by assumption)) (Nat.le_refl _)), k + 1, by omega, HWS.out, .inl ⟨by omega, HD3.out.fresh (TW _ (by assumption)), .inl ⟨FINW.out K3.out, .slice A5 N c5, ?_, ?_⟩⟩⟩
                · rw [← HG.out]; rfl
                · rw [← HN.out, ← HB.out]
                  exact own_lower (own_below O3.out (TW _ (by assumption)) (Nat.le_refl _)) HT2.out.size
            · have d3 : ((p : Int) != (q : Int)) = true := by simp; omega
              have K3 := Lib.hid k3
              clear k3
              go_wp2_with fail
              go_region_held3 (fun w' => TwoS w3 w3.heap.size (.slice (some ⟨w.heap.size + 1, 0, none⟩) 64 64) s (.slice A5 N c5) b w') (first | assumption | exact TwoS.start X3.out Y3.out | exact TwoS.alloc (by assumption) B0.out _)
                (first
                  | (go_at_call 46; refine (NZ.out _ (TwoS.one (by assumption))).mono ?_; rintro e w' ⟨rfl, rfl⟩)
                  | (go_at_call 49; refine (NS.out _ _ (TwoS.one (by assumption)) (TwoS.two (by assumption)) ?_ ?_).mono ?_; (simp); (simp); rintro e w' ⟨rfl, rfl⟩))
              all_goals
                go_wp2
                refine bodyPost_ret (results_tmp4 rfl _ _ _) rfl ?_
                have TW := fun (w' : World) (hz : TwoS w3 w3.heap.size (.slice (some ⟨w.heap.size + 1, 0, none⟩) 64 64) s (.slice A5 N c5) b w') => hz.below
                exact ⟨HT3.out.trans (Turns.of_below (TW _ (by assumption)) (Nat.le_refl _)), k + 1, by omega, HWS.out, .inl ⟨by omega, HD3.out.fresh (TW _ (by assumption)), .inr ⟨FINN.out K3.out, rfl⟩⟩⟩
          · rw [tn_next] at hk2 hd3
            obtain ⟨T, hT⟩ : ∃ T, T = tn t (k + 1) := ⟨_, rfl⟩
            have HTN := Lib.hid hT
            rw [tn_next, ← hT]
            rw [← hT] at hk2
            have t2 : (((T.ans : Nat) : Int) != 0) = true := by rw [bne_iff_ne]; omega
            have HD3 := Lib.hid hd3
            have HT3 := Lib.hid (HT2.out.trans ht3)
            have HK2 := Lib.hid hk2
            have HK := Lib.hid hk
            clear hk2 hd3 ht3 hk hT
            go_wp2
            refine bodyPost_ret (results_tmp4 rfl _ _ _) rfl ?_
            refine ⟨HT3.out, k + 1, by omega, fun j hj => ?_, .inr ⟨by rw [← HTN.out]; exact HK2.out, by rw [← HTN.out]; rfl, HD3.out⟩⟩
            rcases Nat.eq_zero_or_pos j with e | e
            · subst e; exact HC1.out
            · obtain ⟨i, rfl⟩ : ∃ i, j = i + 1 := ⟨j - 1, by omega⟩
              rw [← tn_next]
              exact HK.out i (by omega)
      · have d2 : decide (960 < (N : Int)) = true := decide_eq_true (by omega)
        have K2 := Lib.hid k2
        clear k2
        go_wp2_with (first | (go_at_call 34; refine HOF.out.mono ?_; rintro e w3 ⟨rfl, rfl⟩))
        refine bodyPost_ret (results_tmp4 rfl _ _ _) rfl ?_
        exact NO.out (fun hw => K2.out (HWI.out.1 hw).2.1) _ (Turns.refl _ _) HD2.out
    · have d1 : ((o : Int) != (a : Int)) = true := by simp; omega
      have K1 := Lib.hid k1
      clear k1
      go_wp2_with (first | (go_at_call 34; refine HOF.out.mono ?_; rintro e w3 ⟨rfl, rfl⟩))
      refine bodyPost_ret (results_tmp4 rfl _ _ _) rfl ?_
      exact NO.out (fun hw => K1.out (by rw [HO.out, (HWI.out.1 hw).1, HA.out])) _ (Turns.refl _ _) HD2.out
  · have t2 : (((t.ans : Nat) : Int) != 0) = true := by rw [bne_iff_ne]; omega
    go_wp2_with fail
    refine (dread_bad gD gS gM n S L t a w HD.out (by omega) c1).mono ?_
    rintro e w2 ⟨rfl, hd2, ht2, hs2⟩
    have HD2 := Lib.hid hd2
    have HT2 := Lib.hid ht2
    have HC1 := Lib.hid c1
    clear hd2 ht2 hs2 c1
    go_wp2
    refine bodyPost_ret (results_tmp4 rfl _ _ _) rfl ?_
    exact ⟨HT2.out, 0, by omega, fun j hj => absurd hj (by omega), .inr ⟨HC1.out, rfl, HD2.out⟩⟩
end Go.Proofs.Ytckabekimdcdcaa
