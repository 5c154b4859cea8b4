/-
  JournalBroken answers true for any bytes and any number, and writes nothing that was there.
  Conditions: none beside the kinds' own ranges.
-/
import Derived.Test.YtckabekimdcdcaaJouBroken
namespace Go.Proofs.Ytckabekimdcdcaa
open Go.RowKit
set_option linter.unusedVariables false

set_option maxRecDepth 20000 in
set_option maxHeartbeats 800000 in
theorem journalBroken_edge (A1 A2 A3 : Option Addr) (l1 c1 l2 c2 l3 c3 : Nat) (p : Int) (w : World) (h : 50 < l1 ∨ 900 < l2 ∨ 50 < l3) :
    Calls Try.prog 6 #[.slice A1 l1 c1, .slice A2 l2 c2, .slice A3 l3 c3, .int .u8 p] w fun e w' => e = .returned (.bool true) ∧ Below w.heap.size w w' := by
  obtain ⟨d1, hd1⟩ : ∃ d, d = decide ((50 : Int) < (l1 : Int)) := ⟨_, rfl⟩
  obtain ⟨d2, hd2⟩ : ∃ d, d = decide ((900 : Int) < (l2 : Int)) := ⟨_, rfl⟩
  obtain ⟨d3, hd3⟩ : ∃ d, d = decide ((50 : Int) < (l3 : Int)) := ⟨_, rfl⟩
  have hor : d1 = true ∨ d2 = true ∨ d3 = true := by
    rw [hd1, hd2, hd3]
    simp only [decide_eq_true_eq]
    omega
  have e1 := hd1.symm
  have e2 := hd2.symm
  have e3 := hd3.symm
  clear hd1 hd2 hd3 h
  cases d1 <;> cases d2 <;> cases d3 <;> first
    | (exfalso; revert hor; decide)
    | (clear hor
       go_enter Try.func6, Try.ntmps6
       go_wp2_with fail
       refine (jouAnswers_any _).mono ?_
       rintro e w1 ⟨rfl, hb⟩
       go_wp2
       go_ret
       exact ⟨rfl, hb⟩)

theorem one_pts {w : World} {v : Value} {g : Nat} {t : TypeId} {B : Nat} {xs : List Nat} (h : Blk w g t #[v]) (hx : Bts w B v xs) (hB : B ≤ w.heap.size) : Pts w (.slice (some ⟨g, 0, none⟩) 1 1) [xs] :=
  ⟨_, 1, 1, rfl, rfl, Nat.le_refl _, by simp [maxLen], fun _ => ⟨g, 0, rfl, fun j hj => by
    obtain rfl : j = 0 := by omega
    exact ⟨v, by rw [h.cell]; rfl, hx.more hB⟩⟩⟩

set_option maxRecDepth 20000 in
set_option maxHeartbeats 1600000 in
theorem journalBroken_any (v1 v2 v3 : Value) (xs ys zs' : List Nat) (p : Nat) (w : World) (h1 : Bts w w.heap.size v1 xs) (h2 : Bts w w.heap.size v2 ys) (h3 : Bts w w.heap.size v3 zs') (hx : xs.length ≤ 50) (hy : ys.length ≤ 900) (hz : zs'.length ≤ 50) (hp : p < 256) :
    Calls Try.prog 6 #[v1, v2, v3, .int .u8 (p : Int)] w fun e w' => e = .returned (.bool true) ∧ Below w.heap.size w w' := by
  have H1 := Lib.hid h1
  have H2 := Lib.hid h2
  have H3 := Lib.hid h3
  have HL1 := Lib.hid hx
  have HL2 := Lib.hid hy
  have HL3 := Lib.hid hz
  obtain ⟨A1, l1, c1, rfl, e1, -⟩ := h1
  obtain ⟨A2, l2, c2, rfl, e2, -⟩ := h2
  obtain ⟨A3, l3, c3, rfl, e3, -⟩ := h3
  have t1 : decide ((50 : Int) < (l1 : Int)) = false := decide_eq_false (by omega)
  have t2 : decide ((900 : Int) < (l2 : Int)) = false := decide_eq_false (by omega)
  have t3 : decide ((50 : Int) < (l3 : Int)) = false := decide_eq_false (by omega)
  obtain ⟨a, ha, ha2⟩ : ∃ a : Nat, (p : Int) % 3 = (a : Int) ∧ a < 3 := ⟨p % 3, by omega, by omega⟩
  have HA := Lib.hid ha2
  have ST := Lib.hid (fun (v : Value) (x : List Nat) (hv : Bts w w.heap.size v x) (W : World) (hW : Below w.heap.size w W) => (show Stay (w.heap.size + 2) w.heap.size (w.heap.size + 1) W v x from Stay.below (hv.below hW) hW.size (dk_lo w)))
  clear hx hy hz e1 e2 e3 hp ha2
  go_enter Try.func6, Try.ntmps6
  go_wp2_with fail
  refine (dnew_any 192 192 w (by unfold NearD; omega)).mono ?_
  rintro e w1 ⟨rfl, hd1, hb1, hz1⟩
  have HJ1 := Lib.hid (JDk.start hd1 hb1)
  clear hd1 hb1 hz1
  go_wp2_with fail
  refine (jc_open w w1 0 [] [] HJ1.out (by omega)).mono ?_
  rintro e w2 ⟨gJ, v4, v5, rfl, ho2, hl2, hj2, _, _⟩
  obtain ⟨A4, c4, rfl⟩ := own_any ho2
  obtain ⟨A5, c5, rfl, -⟩ := hl2.shape
  have HJ2 := Lib.hid hj2
  clear ho2 hl2 hj2
  go_wp2_with fail
  refine (jc_app w _ gJ 0 [] [] _ xs _ HJ2.out (H1.out.below HJ2.out.below) HJ2.out.below.size HL1.out (by simp) (by omega)).mono ?_
  rintro e w3 ⟨rfl, hj3, _⟩
  obtain ⟨S3, L3, hn3, hi3, hb3, hg3⟩ := hj3
  have HJN := Lib.hid hn3
  have HI3 := Lib.hid hi3
  have HB3 := Lib.hid hb3
  have HG3 := Lib.hid hg3
  clear hn3 hi3 hb3 hg3
  go_wp2_with fail
  refine (fail_any _ _ _ _ _ _ _ a 1 _ HJN.out.2.1 (by have := HA.out; omega) (by omega)).mono ?_
  rintro e w4 ⟨rfl, hd4, ho4⟩
  have HT4 := Lib.hid (show Turns (jk gJ (w.heap.size + 2) w.heap.size (w.heap.size + 1)) w3 w4 from Turns.of_only ho4 (.inr (.inl rfl)))
  have HB4 := Lib.hid (HB3.out.trans (HT4.out.below (jk_lo HG3.out) HB3.out.size))
  have HJ4 := Lib.hid (show Jnl w4 gJ (w.heap.size + 2) w.heap.size (w.heap.size + 1) S3 L3 ⟨a, 1, false, 0, false⟩ 0 1 false from ⟨ho4.blk HJN.out.1 (fun e => HJN.out.2.2 (.inl e)), hd4, HJN.out.2.2⟩)
  clear hd4 ho4
  go_wp2_with fail
  refine (jc_cut w w4 gJ a S3 L3 xs ys _ HJ4.out HI3.out HB4.out HG3.out (ST.out _ _ H2.out _ HB4.out) (by have := HL2.out; omega) HA.out).mono ?_
  rintro e w5 ⟨rfl, hj5, _⟩
  have HJ5 := Lib.hid hj5
  have HB5 := Lib.hid (show Below w.heap.size w w5 by obtain ⟨_, _, _, _, h, _⟩ := hj5; exact h)
  clear hj5
  go_wp2_with fail
  refine (jc_full w w5 gJ xs ys _ zs' _ HJ5.out (H3.out.below HB5.out) HB5.out.size HL3.out).mono ?_
  rintro e w6 ⟨rfl, hj6, _⟩
  have HJ6 := Lib.hid hj6
  have HB6 := Lib.hid (show Below w.heap.size w w6 by obtain ⟨_, _, _, _, h, _⟩ := hj6; exact h)
  clear hj6
  go_wp2_with fail
  refine (jc_mend w w6 gJ xs ys _ ys HJ6.out (ST.out _ _ H2.out _ HB6.out) (by have := HL2.out; omega)).mono ?_
  rintro e w7 ⟨rfl, hj7, _⟩
  have HJ7 := Lib.hid hj7
  clear hj7
  go_wp2_with fail
  refine (jc_app w _ gJ 1 ys [] _ zs' _ HJ7.out (H3.out.below HJ7.out.below) HJ7.out.below.size HL3.out (by simp) (by omega)).mono ?_
  rintro e w8 ⟨rfl, hj8, _⟩
  have HJ8 := Lib.hid hj8
  clear hj8
  go_wp2_with fail
  refine (jc_crash w w8 1 ys ([] ++ [zs']) 0 0 0 HJ8.out.disk (by omega) (.inl ⟨by omega, rfl⟩) (.inl rfl)).mono ?_
  rintro e w9 ⟨rfl, hj9, _⟩
  have HJ9 := Lib.hid hj9
  clear hj9
  go_wp2_with fail
  refine (jc_open w w9 1 ys ([] ++ [zs']) HJ9.out (by omega)).mono ?_
  rintro e w10 ⟨gK, v10, u10, rfl, ho10, hl10, hj10, ht10, _⟩
  obtain ⟨A10, c10, rfl⟩ := own_any ho10
  have HP10 := Lib.hid hl10.pts
  obtain ⟨A11, c11, rfl, -⟩ := hl10.shape
  have HO10 := Lib.hid (Bts.of_own ho10 H2.out.byte)
  have HB10 := Lib.hid hj10.below
  clear ho10 hl10 hj10 ht10
  go_wp2_with fail
  refine (jouAnswers_any _).mono ?_
  rintro e w11 ⟨rfl, hb11⟩
  have HB11 := Lib.hid (HB10.out.trans (hb11.mono HB10.out.size))
  have HO11 := Lib.hid (HO10.out.below hb11)
  have HP11 := Lib.hid (HP10.out.below hb11)
  clear hb11
  go_wp2_with fail
  refine (same_any _ _ _ _ _ _ _ HO11.out (H2.out.below HB11.out)).mono ?_
  rintro e w12 ⟨rfl, q, rfl⟩
  rw [decide_eq_true rfl]
  have HA12 := Lib.hid (show Below w11.heap.size w11 ((w11.drewN q).alloc (.cells #[.slice A3 l3 c3] 27)) from (below_drewN (Below.refl _ w11) q).alloc (Nat.le_refl _) _)
  have HP12 := Lib.hid (one_pts (w := (w11.drewN q).alloc (.cells #[.slice A3 l3 c3] 27)) (Blk.new (w11.drewN q) _ _) ((H3.out.below HB11.out).below (HA12.out.mono HB11.out.size)) (Nat.le_trans HB11.out.size HA12.out.size))
  have HB12 := Lib.hid (HB11.out.trans (HA12.out.mono HB11.out.size))
  go_wp2_with fail
  refine (sameAll_any _ _ ([] ++ [zs']) _ _ (HP11.out.below HA12.out) HP12.out).mono ?_
  rintro e w13 ⟨rfl, q2, rfl⟩
  rw [decide_eq_true (show [] ++ [zs'] = [zs'] from rfl)]
  have HB13 := Lib.hid (below_drewN HB12.out q2)
  go_wp2
  go_ret
  exact ⟨by simp, HB13.out⟩
end Go.Proofs.Ytckabekimdcdcaa
