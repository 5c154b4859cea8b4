/-
  WordTurned answers true for any bytes, any place and any turn, and writes nothing that was there.
  Conditions: the bytes are within the reach that every row has of itself.
-/
import Derived.Test.YtbnnjlaijhdbkaaSums
namespace Go.Proofs.Ytbnnjlaijhdbkaa
open Go.RowKit
set_option linter.unusedVariables false

set_option maxHeartbeats 400000 in
theorem turned_edge (A : Option Addr) (l cp : Nat) (a c : Int) (w : World) (hm : l ≤ maxLen) (h : l = 0 ∨ 500 < l) :
    Calls Try.prog 5 #[.slice A l cp, .int .u16 a, .int .u8 c] w fun e w' => e = .returned (.bool true) ∧ Below w.heap.size w w' := by
  by_cases h0 : l = 0
  · subst h0
    clear h
    go_enter Try.func5, Try.ntmps5
    go_wp2_with (go_at_call 8; refine (answers_any _).mono ?_; rintro e w1 ⟨rfl, hb1⟩)
    go_ret
    exact ⟨rfl, hb1⟩
  · have h1 : ((l : Int) == 0) = false := by simp; omega
    have h2 : 500 < l := by omega
    have h3 : decide ((500 : Int) < (l : Int)) = true := by simp; omega
    clear h
    go_enter Try.func5, Try.ntmps5
    go_wp2_with (go_at_call 8; refine (answers_any _).mono ?_; rintro e w1 ⟨rfl, hb1⟩)
    go_ret
    exact ⟨rfl, hb1⟩

/-- What the append leaves, as the next line asks it. -/
theorem turned_row {w3 : World} {base l k : Nat} {v : Value} {xs : List Nat} (h : w3.ownsRow base 5 1 v (0 + xs.length) (([] ++ xs).map bv)) (hl : xs.length = l) (hk : k < l) (hb : ∀ y ∈ xs, y < 256) :
    ∃ g cap x, v = .slice (some ⟨g, 0, none⟩) l cap ∧ x < 256 ∧ xs[k]? = some x ∧ w3.cell? ⟨g, k, none⟩ = some (.int .u8 (x : Int)) ∧ w3.frozen? ⟨g, k, none⟩ = false ∧
      base ≤ g ∧ g < w3.heap.size ∧ ∀ y, y < 256 → Bts (w3.setCell ⟨g, k, none⟩ (bv y)) w3.heap.size (.slice (some ⟨g, 0, none⟩) l cap) (xs.set k y) := by
  rw [Nat.zero_add, List.nil_append, hl] at h
  obtain ⟨g, cap, rfl⟩ := own_shape h (by omega)
  have hk' : k < xs.length := by omega
  have hlt := h.lt g rfl
  refine ⟨g, cap, xs[k], rfl, hb _ (List.getElem_mem hk'), by simp [hk'], ?_, h.frozenAt k, hlt.1, hlt.2, fun y hy => ?_⟩
  · rw [h.cellAt k (by omega)]
    simp [hk', bv]
  · have h2 := (h.stored k (bv y)).1
    rw [← List.map_set] at h2
    have h3 := Bts.of_own h2 (fun z hz => by
      rcases List.mem_or_eq_of_mem_set hz with hz | hz
      · exact hb z hz
      · rw [hz]; exact hy)
    simpa [World.setCell] using h3

set_option maxHeartbeats 400000 in
theorem turned_any (v0 : Value) (xs : List Nat) (a : Int) (C k : Nat) (w : World) (h0 : Bts w w.heap.size v0 xs) (hl : xs.length ≠ 0) (hl2 : xs.length ≤ 500) (ha : 0 ≤ a) (ha2 : a ≤ 65535) (hk : a % (xs.length : Int) = (k : Int)) (hc2 : C < 256) :
    Calls Try.prog 5 #[v0, .int .u16 a, .int .u8 (C : Int)] w fun e w' => e = .returned (.bool true) ∧ Below w.heap.size w w' := by
  have H0 := Lib.hid h0
  obtain ⟨A0, l0, c0, rfl, e0, -⟩ := h0
  have E0 := Lib.hid e0
  rw [e0] at hl hl2 hk
  clear e0
  have hkl : k < l0 := by
    have := Int.emod_lt_of_pos a (show (0 : Int) < (l0 : Int) by omega)
    omega
  obtain ⟨i0, hi, hz0, hz1, hz2⟩ := info_parts Try.info5
  have HI := Lib.hid hi
  have HZ0 := Lib.hid hz0
  have HZ1 := Lib.hid hz1
  have HZ2 := Lib.hid hz2
  clear hi hz0 hz1 hz2
  have HN := Lib.hid (own_empty w 5)
  have HB := Lib.hid (show Below w.heap.size w (w.alloc (.cells #[] 5)) from (Below.refl _ _).alloc (Nat.le_refl _) _)
  have t1 : ((l0 : Int) == 0) = false := by simp; omega
  have t2 : decide ((500 : Int) < (l0 : Int)) = false := by simp; omega
  have t3 : ¬ (500 : Int) < (l0 : Int) := by omega
  have t4 : 1 ≤ (l0 : Int) := by omega
  by_cases hC : C = 0
  · have hcz : ((C : Int) != 0) = false := by simp [hC]
    have HC := Lib.hid hC
    clear hC
    go_enter Try.func5, Try.ntmps5
    go_wp2_with (at_builtin; refine wpList_append_bts rfl (.tmp 17) (.tmp 18) 22 rfl w.heap.size 5 i0 Try.underlying22 HI.out HZ0.out HZ1.out HZ2.out _ 0 [] rfl HN.out _ xs rfl w.heap.size (H0.out.below HB.out) (by have := E0.out; omega) HB.out.size ?_; intro v3 w3 O3 B3; obtain ⟨g, cap, x, hv3, hx8, hxk, hcell, hfz, hg1, hg2, hst⟩ := turned_row O3.out E0.out hkl H0.out.byte; subst hv3; have HX := Lib.hid hxk; have HST := Lib.hid hst; have hx0 : 0 ≤ (x : Int) := Int.natCast_nonneg _; have hx1 : (x : Int) < 256 := Int.ofNat_lt.2 hx8; clear hxk hst)
    have hxy := u8_xor_nat x C hx8 hc2
    rw [hxy]
    have hy8 : x ^^^ C < 256 := Nat.xor_lt_two_pow (n := 8) (by omega) (by omega)
    obtain ⟨y, hy⟩ : ∃ y, y = x ^^^ C := ⟨_, rfl⟩
    rw [← hy] at hy8 ⊢
    have HY := Lib.hid hy
    clear hxy hy
    obtain ⟨w4, h4⟩ : ∃ w4, w4 = w3.setCell ⟨g, k, none⟩ (bv y) := ⟨_, rfl⟩
    have HX4 := Lib.hid (show Bts w4 w3.heap.size (.slice (some ⟨g, 0, none⟩) l0 cap) (xs.set k y) from by rw [h4]; exact HST.out y hy8)
    have B4 := Lib.hid (show Below w.heap.size w w4 from by rw [h4]; exact (HB.out.trans B3.out).setCell hg1 _)
    have Z4 := Lib.hid (show w3.heap.size ≤ w4.heap.size from by rw [h4]; simp [World.setCell])
    rw [show Value.int .u8 (y : Int) = bv y from rfl, ← h4]
    clear h4 hcell hfz HST O3 B3 HN HB HI HZ0 HZ1 HZ2
    obtain ⟨S, hS⟩ : ∃ S, S = sumU (xs.set k y) := ⟨_, rfl⟩
    have HS := Lib.hid hS
    clear hS
    refine (answers_any _).mono ?_
    rintro e w5 ⟨rfl, hb5⟩
    have B5 := Lib.hid (B4.out.trans (hb5.mono B4.out.size))
    have HX5 := Lib.hid (HX4.out.below (hb5.mono Z4.out))
    have Z5 := Lib.hid (Nat.le_trans Z4.out hb5.size)
    clear hb5
    go_wp2_with fail
    refine (sum_parts w5 22 _ 1 1 w3.heap.size [xs.set k y] S rfl (by omega) Z5.out (fun j hj => match j, hj with
      | 0, _ => ⟨_, rfl, HX5.out⟩) (by rw [HS.out]; simp)).mono ?_
    rintro e w6 ⟨rfl, rfl⟩
    obtain ⟨w6, h6⟩ : ∃ w6, w6 = w5.alloc (.cells #[.slice (some ⟨g, 0, none⟩) l0 cap] 22) := ⟨_, rfl⟩
    have B6 := Lib.hid (show Below w.heap.size w w6 from by rw [h6]; exact B5.out.alloc B5.out.size _)
    have HX6 := Lib.hid (show Bts w6 w3.heap.size (.slice (some ⟨g, 0, none⟩) l0 cap) (xs.set k y) from by
      rw [h6]
      exact HX5.out.keep fun p hp => World.cell?_alloc_lt w5 _ p (by have := Z5.out; omega))
    have Z6 := Lib.hid (show w3.heap.size ≤ w6.heap.size from by rw [h6]; simp; have := Z5.out; omega)
    rw [← h6]
    clear h6
    go_wp2_with fail
    refine (refSum_any _ _ _ _ HX6.out).mono ?_
    rintro e w7 ⟨rfl, rfl⟩
    rw [← HS.out]
    go_wp2_with fail
    refine (sum_parts w6 22 _ 1 1 w3.heap.size [xs.set k y] S rfl (by omega) Z6.out (fun j hj => match j, hj with
      | 0, _ => ⟨_, rfl, HX6.out⟩) (by rw [HS.out]; simp)).mono ?_
    rintro e w8 ⟨rfl, rfl⟩
    obtain ⟨w8, h8⟩ : ∃ w8, w8 = w6.alloc (.cells #[.slice (some ⟨g, 0, none⟩) l0 cap] 22) := ⟨_, rfl⟩
    have B8 := Lib.hid (show Below w.heap.size w w8 from by rw [h8]; exact B6.out.alloc B6.out.size _)
    rw [← h8]
    clear h8
    have HS2 := Lib.hid (show S = sumU xs from by
      rw [HS.out, HY.out, HC.out, Nat.xor_zero]
      congr 1
      obtain ⟨hj, e⟩ := List.getElem?_eq_some_iff.1 HX.out
      rw [← e, List.set_getElem_self])
    go_wp2_with fail
    refine (sum_parts w8 22 _ 1 1 w.heap.size [xs] S rfl (by omega) B8.out.size (fun j hj => match j, hj with
      | 0, _ => ⟨_, rfl, H0.out.below B8.out⟩) (by rw [HS2.out]; simp)).mono ?_
    rintro e w9 ⟨rfl, rfl⟩
    go_wp2
    go_ret
    exact ⟨by simp, B8.out.alloc B8.out.size _⟩
  · have hcz : ((C : Int) != 0) = true := by simp [hC]
    clear hC
    go_enter Try.func5, Try.ntmps5
    go_wp2_with (at_builtin; refine wpList_append_bts rfl (.tmp 17) (.tmp 18) 22 rfl w.heap.size 5 i0 Try.underlying22 HI.out HZ0.out HZ1.out HZ2.out _ 0 [] rfl HN.out _ xs rfl w.heap.size (H0.out.below HB.out) (by have := E0.out; omega) HB.out.size ?_; intro v3 w3 O3 B3; obtain ⟨g, cap, x, hv3, hx8, hxk, hcell, hfz, hg1, hg2, hst⟩ := turned_row O3.out E0.out hkl H0.out.byte; subst hv3; have HX := Lib.hid hxk; have HST := Lib.hid hst; have hx0 : 0 ≤ (x : Int) := Int.natCast_nonneg _; have hx1 : (x : Int) < 256 := Int.ofNat_lt.2 hx8; clear hxk hst)
    have hxy := u8_xor_nat x C hx8 hc2
    rw [hxy]
    have hy8 : x ^^^ C < 256 := Nat.xor_lt_two_pow (n := 8) (by omega) (by omega)
    obtain ⟨y, hy⟩ : ∃ y, y = x ^^^ C := ⟨_, rfl⟩
    rw [← hy] at hy8 ⊢
    have HY := Lib.hid hy
    clear hxy hy
    obtain ⟨w4, h4⟩ : ∃ w4, w4 = w3.setCell ⟨g, k, none⟩ (bv y) := ⟨_, rfl⟩
    have HX4 := Lib.hid (show Bts w4 w3.heap.size (.slice (some ⟨g, 0, none⟩) l0 cap) (xs.set k y) from by rw [h4]; exact HST.out y hy8)
    have B4 := Lib.hid (show Below w.heap.size w w4 from by rw [h4]; exact (HB.out.trans B3.out).setCell hg1 _)
    have Z4 := Lib.hid (show w3.heap.size ≤ w4.heap.size from by rw [h4]; simp [World.setCell])
    rw [show Value.int .u8 (y : Int) = bv y from rfl, ← h4]
    clear h4 hcell hfz HST O3 B3 HN HB HI HZ0 HZ1 HZ2
    obtain ⟨S, hS⟩ : ∃ S, S = sumU (xs.set k y) := ⟨_, rfl⟩
    have HS := Lib.hid hS
    clear hS
    refine (answers_any _).mono ?_
    rintro e w5 ⟨rfl, hb5⟩
    have B5 := Lib.hid (B4.out.trans (hb5.mono B4.out.size))
    have HX5 := Lib.hid (HX4.out.below (hb5.mono Z4.out))
    have Z5 := Lib.hid (Nat.le_trans Z4.out hb5.size)
    clear hb5
    go_wp2_with fail
    refine (sum_parts w5 22 _ 1 1 w3.heap.size [xs.set k y] S rfl (by omega) Z5.out (fun j hj => match j, hj with
      | 0, _ => ⟨_, rfl, HX5.out⟩) (by rw [HS.out]; simp)).mono ?_
    rintro e w6 ⟨rfl, rfl⟩
    obtain ⟨w6, h6⟩ : ∃ w6, w6 = w5.alloc (.cells #[.slice (some ⟨g, 0, none⟩) l0 cap] 22) := ⟨_, rfl⟩
    have B6 := Lib.hid (show Below w.heap.size w w6 from by rw [h6]; exact B5.out.alloc B5.out.size _)
    have HX6 := Lib.hid (show Bts w6 w3.heap.size (.slice (some ⟨g, 0, none⟩) l0 cap) (xs.set k y) from by
      rw [h6]
      exact HX5.out.keep fun p hp => World.cell?_alloc_lt w5 _ p (by have := Z5.out; omega))
    have Z6 := Lib.hid (show w3.heap.size ≤ w6.heap.size from by rw [h6]; simp; have := Z5.out; omega)
    rw [← h6]
    clear h6
    go_wp2_with fail
    refine (refSum_any _ _ _ _ HX6.out).mono ?_
    rintro e w7 ⟨rfl, rfl⟩
    rw [← HS.out]
    go_wp2
    go_ret
    exact ⟨by simp, B6.out⟩
end Go.Proofs.Ytbnnjlaijhdbkaa
