/-
  SlotTurns answers true for any gen, any bytes and either order, and writes nothing that was there.
  Conditions: none beside the kinds' own ranges.
-/
import Derived.Test.YtgjedofljojioaaSlotH
import Derived.Test.YtgjedofljojioaaRefA
namespace Go.Proofs.Ytgjedofljojioaa
open Go.RowKit
set_option linter.unusedVariables false

set_option maxRecDepth 20000 in
set_option maxHeartbeats 800000 in
theorem slotTurns_edge (A1 A2 A3 : Option Addr) (l1 c1 l2 c2 l3 c3 : Nat) (g : Int) (t : Bool) (w : World) (h : 960 < l1 ∨ 960 < l2 ∨ 960 < l3 ∨ 2147483648 < g) :
    Calls Try.prog 6 #[.int .u32 g, .slice A1 l1 c1, .slice A2 l2 c2, .slice A3 l3 c3, .bool t] w fun e w' => e = .returned (.bool true) ∧ Below w.heap.size w w' := by
  obtain ⟨d1, hd1⟩ : ∃ d, d = decide ((960 : Int) < (l1 : Int)) := ⟨_, rfl⟩
  obtain ⟨d2, hd2⟩ : ∃ d, d = decide ((960 : Int) < (l2 : Int)) := ⟨_, rfl⟩
  obtain ⟨d3, hd3⟩ : ∃ d, d = decide ((960 : Int) < (l3 : Int)) := ⟨_, rfl⟩
  obtain ⟨d4, hd4⟩ : ∃ d, d = decide ((2147483648 : Int) < g) := ⟨_, rfl⟩
  have hor : d1 = true ∨ d2 = true ∨ d3 = true ∨ d4 = true := by
    rw [hd1, hd2, hd3, hd4]
    simp only [decide_eq_true_eq]
    omega
  have e1 := hd1.symm
  have e2 := hd2.symm
  have e3 := hd3.symm
  have e4 := hd4.symm
  clear hd1 hd2 hd3 hd4 h
  cases d1 <;> cases d2 <;> cases d3 <;> cases d4 <;> first
    | (exfalso; revert hor; decide)
    | (clear hor
       go_enter Try.func6, Try.ntmps6
       go_wp2_with fail
       refine (slotAnswers_any _).mono ?_
       rintro e w1 ⟨rfl, hb⟩
       go_wp2
       go_ret
       exact ⟨rfl, hb⟩)

/-- The other slot is as it was. -/
theorem sav_slot {F : Nat → List Nat} {g x : Nat} {b : List Nat} (hb : b.length ≤ 960) (hx : x = 1 - g % 2) : (Whole (savL F g b) x ↔ Whole F x) ∧ sloG (savL F g b) x = sloG F x ∧ sloB (savL F g b) x = sloB F x := by
  have hs : ∀ f, 64 + 16 * x ≤ f → f < 80 + 16 * x → savL F g b f = F f := fun f h1 h2 => sav_other hb (by omega)
  have hG : sloG (savL F g b) x = sloG F x := by unfold sloG; rw [hs _ (by omega) (by omega)]
  have hN : sloN (savL F g b) x = sloN F x := by unfold sloN; rw [hs _ (by omega) (by omega)]
  have hB : sloB (savL F g b) x = sloB F x := by
    unfold sloB
    rw [hN, sloA_congr (F' := F) (fun f h1 h2 => hs f (by omega) (by omega))]
  refine ⟨?_, hG, hB⟩
  unfold Whole
  rw [hN, hG, hB, hs _ (by omega) (by omega)]
/-- Two savings side by side, in either order. -/
theorem load_two {F : Nat → List Nat} {g : Nat} {a b : List Nat} (hg : g + 1 < 4294967296) (ha : a.length ≤ 960) (hb : b.length ≤ 960) :
    loadR (savL (savL F g a) (g + 1) b) = (g + 1, b) ∧ loadR (savL (savL F (g + 1) b) g a) = (g + 1, b) := by
  constructor
  · refine load_sav hg hb (fun _ => ?_)
    rw [show 1 - (g + 1) % 2 = g % 2 by omega, (sav_whole (F := F) (by omega) ha).2.1]
    omega
  · have h := sav_slot (F := savL F (g + 1) b) (g := g) (x := (g + 1) % 2) (b := a) ha (by omega)
    have h2 := sav_whole (F := F) (g := g + 1) (b := b) hg hb
    refine load_of ⟨h.1.2 h2.1, by rw [h.2.1]; exact h2.2.1, by rw [h.2.2]; exact h2.2.2⟩ (fun _ => ?_)
    rw [show 1 - (g + 1) % 2 = g % 2 by omega, (sav_whole (F := savL F (g + 1) b) (by omega) ha).2.1]
    omega
theorem load_three {F : Nat → List Nat} {g : Nat} {a b c : List Nat} (hg : g + 1 < 4294967296) (ha : a.length ≤ 960) (hb : b.length ≤ 960) (hc : c.length ≤ 960) :
    loadR (savL (savL (savL F g a) (g + 1) b) (g + 1) c) = (g + 1, c) ∧ loadR (savL (savL (savL F (g + 1) b) g a) (g + 1) c) = (g + 1, c) := by
  constructor
  · refine load_sav hg hc (fun _ => ?_)
    rw [(sav_slot (F := savL F g a) (g := g + 1) (x := 1 - (g + 1) % 2) hb rfl).2.1, show 1 - (g + 1) % 2 = g % 2 by omega, (sav_whole (F := F) (by omega) ha).2.1]
    omega
  · refine load_sav hg hc (fun _ => ?_)
    rw [show 1 - (g + 1) % 2 = g % 2 by omega, (sav_whole (F := savL F (g + 1) b) (by omega) ha).2.1]
    omega

set_option maxRecDepth 20000 in
set_option maxHeartbeats 3200000 in
theorem slotTurns_any (v1 v2 v3 : Value) (xs ys zs' : List Nat) (g : Nat) (t : Bool) (w : World) (h1 : Bts w w.heap.size v1 xs) (h2 : Bts w w.heap.size v2 ys) (h3 : Bts w w.heap.size v3 zs') (hx : xs.length ≤ 960) (hy : ys.length ≤ 960) (hz : zs'.length ≤ 960) (hg : g ≤ 2147483648) :
    Calls Try.prog 6 #[.int .u32 (g : Int), v1, v2, v3, .bool t] w fun e w' => e = .returned (.bool true) ∧ Below w.heap.size w w' := by
  have H1 := Lib.hid h1
  have H2 := Lib.hid h2
  have H3 := Lib.hid h3
  have HL1 := Lib.hid hx
  have HL2 := Lib.hid hy
  have HL3 := Lib.hid hz
  obtain ⟨A1, l1, c1, rfl, e1, -⟩ := h1
  obtain ⟨A2, l2, c2, rfl, e2, -⟩ := h2
  obtain ⟨A3, l3, c3, rfl, e3, -⟩ := h3
  have t1 : decide ((960 : Int) < (l1 : Int)) = false := decide_eq_false (by omega)
  have t2 : decide ((960 : Int) < (l2 : Int)) = false := decide_eq_false (by omega)
  have t3 : decide ((960 : Int) < (l3 : Int)) = false := decide_eq_false (by omega)
  have t4 : decide ((2147483648 : Int) < (g : Int)) = false := decide_eq_false (by omega)
  obtain ⟨g1, hg1⟩ : ∃ g1, g1 = g + 1 := ⟨_, rfl⟩
  have n1 : (g : Int) + 1 = (g1 : Int) := by omega
  have n2 : g1 ≤ 2147483649 := by omega
  have HG1 := Lib.hid hg1
  have HM := Lib.hid (show ∀ q, dk (w.heap.size + 2) w.heap.size (w.heap.size + 1) q → q < w.heap.size + 3 from dk_base w)
  clear hx hy hz e1 e2 e3 hg1
  go_enter Try.func6, Try.ntmps6
  go_wp2_with fail
  refine (dnew_any 192 192 w (by unfold NearD; omega)).mono ?_
  rintro e w1 ⟨rfl, hd1, hb1, hz1⟩
  have HD1 := Lib.hid hd1
  have HN1 := Lib.hid hb1
  have HW1 := Lib.hid (show w.heap.size + 3 ≤ w1.heap.size by omega)
  have HA1 := Lib.hid (show Stay (w.heap.size + 2) w.heap.size (w.heap.size + 1) w1 (.slice A1 l1 c1) xs from Stay.below (H1.out.below hb1) hb1.size (dk_lo w))
  have HB1 := Lib.hid (show Stay (w.heap.size + 2) w.heap.size (w.heap.size + 1) w1 (.slice A2 l2 c2) ys from Stay.below (H2.out.below hb1) hb1.size (dk_lo w))
  have HC1 := Lib.hid (show Stay (w.heap.size + 2) w.heap.size (w.heap.size + 1) w1 (.slice A3 l3 c3) zs' from Stay.below (H3.out.below hb1) hb1.size (dk_lo w))
  clear hd1 hb1 hz1
  cases t with
  | true =>
    go_wp2_with fail
    refine (save_ok _ _ _ _ _ _ g1 _ ys _ HD1.out (by omega) HB1.out HL2.out (by omega)).mono ?_
    rintro e w2 ⟨rfl, hd, ht⟩
    have HD2 := Lib.hid hd
    have HN2 := Lib.hid (ht.fresh_ HN1.out (Nat.le_refl _) (by omega) (Nat.le_refl _) (by omega))
    have HA2 := Lib.hid (HA1.out.turns ht)
    have HB2 := Lib.hid (HB1.out.turns ht)
    have HC2 := Lib.hid (HC1.out.turns ht)
    have HW2 := Lib.hid (Nat.le_trans HW1.out ht.size)
    clear hd ht
    go_wp2_with fail
    refine (save_ok _ _ _ _ _ _ g _ xs _ HD2.out (by omega) HA2.out HL1.out (by omega)).mono ?_
    rintro e w3 ⟨rfl, hd, ht⟩
    have HD3 := Lib.hid hd
    have HN3 := Lib.hid (ht.fresh_ HN2.out (Nat.le_refl _) (by omega) (Nat.le_refl _) (by omega))
    have HA3 := Lib.hid (HA2.out.turns ht)
    have HB3 := Lib.hid (HB2.out.turns ht)
    have HC3 := Lib.hid (HC2.out.turns ht)
    have HW3 := Lib.hid (Nat.le_trans HW2.out ht.size)
    clear hd ht
    have HK1 := Lib.hid (show loadR (last (savL (last (savL (last (fun _ => zer) (fun _ => none)) g1 ys) (fun _ => none)) g xs) (fun _ => none)) = (g1, ys) from by have h := (load_two (F := fun _ => zer) (g := g) (a := xs) (b := ys) (by omega) HL1.out HL2.out).2; rw [← HG1.out] at h; exact h)
    have HK2 := Lib.hid (show loadR (last (savL (last (savL (last (savL (last (fun _ => zer) (fun _ => none)) g1 ys) (fun _ => none)) g xs) (fun _ => none)) g1 zs') (fun _ => none)) = (g1, zs') from by have h := (load_three (F := fun _ => zer) (g := g) (a := xs) (b := ys) (c := zs') (by omega) HL1.out HL2.out HL3.out).2; rw [← HG1.out] at h; exact h)
    go_wp2_with fail
    refine (load_ok _ _ _ _ _ _ _ HD3.out (by omega)).mono ?_
    rintro e w4 ⟨v4, rfl, ho, hd, ht⟩
    rw [HK1.out] at ho ⊢
    have HD4 := Lib.hid hd
    have HN4 := Lib.hid (ht.fresh_ HN3.out (Nat.le_refl _) (by omega) (Nat.le_refl _) (by omega))
    have HB4 := Lib.hid (HB3.out.turns ht)
    have HC4 := Lib.hid (HC3.out.turns ht)
    obtain ⟨A4, c4, rfl⟩ := own_any ho
    have HV4 := Lib.hid ho
    clear ho hd ht
    go_wp2_with fail
    refine (save_ok _ _ _ _ _ _ g1 _ zs' _ HD4.out (by omega) HC4.out HL3.out (by omega)).mono ?_
    rintro e w5 ⟨rfl, hd, ht⟩
    have HD5 := Lib.hid hd
    have HN5 := Lib.hid (ht.fresh_ HN4.out (Nat.le_refl _) (by omega) (Nat.le_refl _) (by omega))
    have HB5 := Lib.hid (HB4.out.turns ht)
    have HC5 := Lib.hid (HC4.out.turns ht)
    have HV5 := Lib.hid (own_turns (own_lower HV4.out HW3.out) HM.out ht)
    clear hd ht
    go_wp2_with fail
    refine (load_ok _ _ _ _ _ _ _ HD5.out (by omega)).mono ?_
    rintro e w6 ⟨v6, rfl, ho, hd, ht⟩
    rw [HK2.out] at ho ⊢
    have HD6 := Lib.hid hd
    have HN6 := Lib.hid (ht.fresh_ HN5.out (Nat.le_refl _) (by omega) (Nat.le_refl _) (by omega))
    have HB6 := Lib.hid (HB5.out.turns ht)
    have HC6 := Lib.hid (HC5.out.turns ht)
    have HV6 := Lib.hid (own_turns HV5.out HM.out ht)
    obtain ⟨A6, c6, rfl⟩ := own_any ho
    have HU6 := Lib.hid ho
    clear ho hd ht
    go_wp2_with fail
    refine (slotAnswers_any _).mono ?_
    rintro e w7 ⟨rfl, hb7⟩
    have HN7 := Lib.hid (HN6.out.trans (hb7.mono HN6.out.size))
    obtain ⟨P6, hx6, hP6⟩ := HB6.out.here
    obtain ⟨Q6, hy6, hQ6⟩ := HC6.out.here
    have Y7 := Lib.hid (hx6.below (hb7.mono hP6))
    have Z7 := Lib.hid (hy6.below (hb7.mono hQ6))
    have V7 := Lib.hid ((Bts.of_own HV6.out H2.out.byte).below hb7)
    have U7 := Lib.hid ((Bts.of_own HU6.out H3.out.byte).below hb7)
    clear hb7 hx6 hy6 hP6 hQ6
    go_wp2_with fail
    refine (same_any _ _ _ _ _ _ _ V7.out Y7.out).mono ?_
    rintro e w8 ⟨rfl, q, rfl⟩
    rw [decide_eq_true rfl]
    go_wp2_with fail
    refine (same_any _ _ _ _ _ _ _ (U7.out.drewN (n := q)) (Z7.out.drewN (n := q))).mono ?_
    rintro e w9 ⟨rfl, q2, rfl⟩
    rw [decide_eq_true rfl]
    have HN9 := Lib.hid (below_drewN HN7.out (q + q2))
    go_wp2
    go_ret
    exact ⟨by simp, HN9.out⟩
  | false =>
    go_wp2_with fail
    refine (save_ok _ _ _ _ _ _ g _ xs _ HD1.out (by omega) HA1.out HL1.out (by omega)).mono ?_
    rintro e w2 ⟨rfl, hd, ht⟩
    have HD2 := Lib.hid hd
    have HN2 := Lib.hid (ht.fresh_ HN1.out (Nat.le_refl _) (by omega) (Nat.le_refl _) (by omega))
    have HA2 := Lib.hid (HA1.out.turns ht)
    have HB2 := Lib.hid (HB1.out.turns ht)
    have HC2 := Lib.hid (HC1.out.turns ht)
    have HW2 := Lib.hid (Nat.le_trans HW1.out ht.size)
    clear hd ht
    go_wp2_with fail
    refine (save_ok _ _ _ _ _ _ g1 _ ys _ HD2.out (by omega) HB2.out HL2.out (by omega)).mono ?_
    rintro e w3 ⟨rfl, hd, ht⟩
    have HD3 := Lib.hid hd
    have HN3 := Lib.hid (ht.fresh_ HN2.out (Nat.le_refl _) (by omega) (Nat.le_refl _) (by omega))
    have HA3 := Lib.hid (HA2.out.turns ht)
    have HB3 := Lib.hid (HB2.out.turns ht)
    have HC3 := Lib.hid (HC2.out.turns ht)
    have HW3 := Lib.hid (Nat.le_trans HW2.out ht.size)
    clear hd ht
    have HK1 := Lib.hid (show loadR (last (savL (last (savL (last (fun _ => zer) (fun _ => none)) g xs) (fun _ => none)) g1 ys) (fun _ => none)) = (g1, ys) from by have h := (load_two (F := fun _ => zer) (g := g) (a := xs) (b := ys) (by omega) HL1.out HL2.out).1; rw [← HG1.out] at h; exact h)
    have HK2 := Lib.hid (show loadR (last (savL (last (savL (last (savL (last (fun _ => zer) (fun _ => none)) g xs) (fun _ => none)) g1 ys) (fun _ => none)) g1 zs') (fun _ => none)) = (g1, zs') from by have h := (load_three (F := fun _ => zer) (g := g) (a := xs) (b := ys) (c := zs') (by omega) HL1.out HL2.out HL3.out).1; rw [← HG1.out] at h; exact h)
    go_wp2_with fail
    refine (load_ok _ _ _ _ _ _ _ HD3.out (by omega)).mono ?_
    rintro e w4 ⟨v4, rfl, ho, hd, ht⟩
    rw [HK1.out] at ho ⊢
    have HD4 := Lib.hid hd
    have HN4 := Lib.hid (ht.fresh_ HN3.out (Nat.le_refl _) (by omega) (Nat.le_refl _) (by omega))
    have HB4 := Lib.hid (HB3.out.turns ht)
    have HC4 := Lib.hid (HC3.out.turns ht)
    obtain ⟨A4, c4, rfl⟩ := own_any ho
    have HV4 := Lib.hid ho
    clear ho hd ht
    go_wp2_with fail
    refine (save_ok _ _ _ _ _ _ g1 _ zs' _ HD4.out (by omega) HC4.out HL3.out (by omega)).mono ?_
    rintro e w5 ⟨rfl, hd, ht⟩
    have HD5 := Lib.hid hd
    have HN5 := Lib.hid (ht.fresh_ HN4.out (Nat.le_refl _) (by omega) (Nat.le_refl _) (by omega))
    have HB5 := Lib.hid (HB4.out.turns ht)
    have HC5 := Lib.hid (HC4.out.turns ht)
    have HV5 := Lib.hid (own_turns (own_lower HV4.out HW3.out) HM.out ht)
    clear hd ht
    go_wp2_with fail
    refine (load_ok _ _ _ _ _ _ _ HD5.out (by omega)).mono ?_
    rintro e w6 ⟨v6, rfl, ho, hd, ht⟩
    rw [HK2.out] at ho ⊢
    have HD6 := Lib.hid hd
    have HN6 := Lib.hid (ht.fresh_ HN5.out (Nat.le_refl _) (by omega) (Nat.le_refl _) (by omega))
    have HB6 := Lib.hid (HB5.out.turns ht)
    have HC6 := Lib.hid (HC5.out.turns ht)
    have HV6 := Lib.hid (own_turns HV5.out HM.out ht)
    obtain ⟨A6, c6, rfl⟩ := own_any ho
    have HU6 := Lib.hid ho
    clear ho hd ht
    go_wp2_with fail
    refine (slotAnswers_any _).mono ?_
    rintro e w7 ⟨rfl, hb7⟩
    have HN7 := Lib.hid (HN6.out.trans (hb7.mono HN6.out.size))
    obtain ⟨P6, hx6, hP6⟩ := HB6.out.here
    obtain ⟨Q6, hy6, hQ6⟩ := HC6.out.here
    have Y7 := Lib.hid (hx6.below (hb7.mono hP6))
    have Z7 := Lib.hid (hy6.below (hb7.mono hQ6))
    have V7 := Lib.hid ((Bts.of_own HV6.out H2.out.byte).below hb7)
    have U7 := Lib.hid ((Bts.of_own HU6.out H3.out.byte).below hb7)
    clear hb7 hx6 hy6 hP6 hQ6
    go_wp2_with fail
    refine (same_any _ _ _ _ _ _ _ V7.out Y7.out).mono ?_
    rintro e w8 ⟨rfl, q, rfl⟩
    rw [decide_eq_true rfl]
    go_wp2_with fail
    refine (same_any _ _ _ _ _ _ _ (U7.out.drewN (n := q)) (Z7.out.drewN (n := q))).mono ?_
    rintro e w9 ⟨rfl, q2, rfl⟩
    rw [decide_eq_true rfl]
    have HN9 := Lib.hid (below_drewN HN7.out (q + q2))
    go_wp2
    go_ret
    exact ⟨by simp, HN9.out⟩
end Go.Proofs.Ytgjedofljojioaa
