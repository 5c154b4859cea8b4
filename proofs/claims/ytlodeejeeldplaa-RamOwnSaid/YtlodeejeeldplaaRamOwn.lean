/-
  RamOwn answers true for any bytes, and writes nothing that was there.
  Conditions: the bytes are read in memory.
-/
import Derived.Test.YtlodeejeeldplaaRamAns
namespace Go.Proofs.Ytlodeejeeldplaa
open Go.RowKit
set_option linter.unusedVariables false

set_option maxHeartbeats 400000 in
theorem ramOwn_edge (A : Option Addr) (l c : Nat) (w : World) (hl : l ≤ maxLen) (h : 64 < l) :
    Calls Try.prog 4 #[.slice A l c] w fun e w' => e = .returned (.bool true) ∧ Below w.heap.size w w' := by
  unfold maxLen at hl
  have t1 : decide ((64 : Int) < (l : Int)) = true := by simp; omega
  go_enter Try.func4, Try.ntmps4
  go_wp2_with fail
  refine (ramAnswers_any _).mono ?_
  rintro e w1 ⟨rfl, hb1⟩
  go_wp2
  go_ret
  exact ⟨rfl, hb1⟩

/-- Block g is bytes, whichever. -/
def Bys (w : World) (g n : Nat) : Prop := ∃ cur, Blk w g 5 cur ∧ ∀ j, j < n → ∃ x : Nat, x < 256 ∧ cur[j]? = some (bv x)
theorem Bys.set_ {w : World} {g n : Nat} (h : Bys w g n) (k x : Nat) (hx : x < 256) : Bys (w.setCell ⟨g, k, none⟩ (bv x)) g n := by
  obtain ⟨cur, h1, h2⟩ := h
  refine ⟨_, h1.set_ k _, fun j hj => ?_⟩
  rw [Array.getElem?_setIfInBounds]
  by_cases e : k = j
  · subst e
    obtain ⟨y, _, hy⟩ := h2 k hj
    have hlt : k < cur.size := (Array.getElem?_eq_some_iff.1 hy).1
    exact ⟨x, hx, by rw [if_pos rfl, if_pos hlt]⟩
  · rw [if_neg e]
    exact h2 j hj
theorem Bys.of_blk {w : World} {g n : Nat} {xs : List Nat} (h : Blk w g 5 (xs.map bv).toArray) (hl : xs.length = n) (hb : ∀ y ∈ xs, y < 256) : Bys w g n :=
  ⟨_, h, fun j hj => ⟨xs[j], hb _ (List.getElem_mem _), by simp [show j < xs.length by omega]⟩⟩
theorem inc_byte (x : Nat) : ∃ y : Nat, y < 256 ∧ IntKind.u8.wrap ((x : Int) + 1) = (y : Int) := by
  refine ⟨(x + 1) % 256, Nat.mod_lt _ (by omega), ?_⟩
  rw [IntKind.wrap_u8]
  omega

/-- An owned copy of bytes, as the loop over it asks. -/
theorem own_bys {w : World} {base l : Nat} {v : Value} {xs : List Nat} (h : w.ownsRow base 5 1 v (0 + xs.length) (([] ++ xs).map bv)) (hl : xs.length = l) (hb : ∀ y ∈ xs, y < 256) :
    ∃ A c, v = .slice A l c ∧ Bts w w.heap.size (.slice A l c) xs ∧ (0 < l → ∃ g, A = some ⟨g, 0, none⟩ ∧ base ≤ g ∧ Bys w g l) := by
  rw [Nat.zero_add, List.nil_append] at h
  have hx := Bts.of_own h hb
  have hx2 := hx
  obtain ⟨A, n, c, hv, hn, -⟩ := hx2
  obtain rfl : n = l := by omega
  subst hv
  refine ⟨A, c, rfl, hx, fun h0 => ?_⟩
  obtain ⟨g, cap, hs⟩ := own_shape h (by omega)
  injection hs with e1 e2 e3
  subst e1 e3
  rw [hn] at h
  obtain ⟨cur, h1, h2, h3, h4, h5⟩ := Blk.of_own h
  refine ⟨g, rfl, (h.lt g rfl).1, cur, h1, fun j hj => ⟨xs[j], hb _ (List.getElem_mem _), ?_⟩⟩
  rw [h5 j hj]
  simp [show j < xs.length by omega]
theorem Bys.below {w w' : World} {g n B : Nat} (h : Bys w g n) (hb : Below B w w') (hg : g < B) : Bys w' g n := by
  obtain ⟨cur, h1, h2⟩ := h
  exact ⟨cur, h1.below hb hg, h2⟩
theorem Bys.only {w w' : World} {g n k : Nat} (h : Bys w g n) (ho : Only k w w') (hg : g ≠ k) : Bys w' g n := by
  obtain ⟨cur, h1, h2⟩ := h
  exact ⟨cur, ho.blk h1 hg, h2⟩
theorem win_over0 (F xs : List Nat) (h : xs.length ≤ F.length) : win (over F 0 xs) 0 xs.length = xs := by
  simp [win, over]

set_option maxHeartbeats 800000 in
theorem ramOwn_any (v0 : Value) (xs : List Nat) (w : World) (hv : Bts w w.heap.size v0 xs) (hl : xs.length ≤ 64) :
    Calls Try.prog 4 #[v0] w fun e w' => e = .returned (.bool true) ∧ Below w.heap.size w w' := by
  have HV := Lib.hid hv
  obtain ⟨A0, l0, c0, rfl, e0, -⟩ := hv
  have E0 := Lib.hid e0
  rw [e0] at hl
  clear e0
  have t1 : decide ((64 : Int) < (l0 : Int)) = false := by simp; omega
  obtain ⟨i0, hi, hz0, hz1, hz2⟩ := info_parts Try.info8
  have HI := Lib.hid hi
  have HZ0 := Lib.hid hz0
  have HZ1 := Lib.hid hz1
  have HZ2 := Lib.hid hz2
  clear hi hz0 hz1 hz2
  go_enter Try.func4, Try.ntmps4
  go_wp2_with fail
  refine (new_any 1 1 w (by unfold Near; omega)).mono ?_
  rintro e w1 ⟨rfl, hm1, hb1, hz1⟩
  have HM1 := Lib.hid hm1
  have HB1 := Lib.hid hb1
  clear hm1 hb1 hz1
  have HN1 := Lib.hid (own_empty w1 5)
  have HC1 := Lib.hid (show Below w1.heap.size w1 (w1.alloc (.cells #[] 5)) from (Below.refl _ _).alloc (Nat.le_refl _) _)
  go_wp2_with (at_builtin; refine wpList_append_bts rfl (.tmp 16) (.tmp 17) 31 rfl w1.heap.size 5 i0 Try.underlying31 HI.out HZ0.out HZ1.out HZ2.out _ 0 [] rfl HN1.out _ xs rfl w.heap.size ((HV.out.below HB1.out).below (HC1.out.mono HB1.out.size)) (by have := E0.out; omega) HC1.out.size ?_; intro v2 w2 O2 B2)
  obtain ⟨A2, c2, rfl, hx2, hg2⟩ := own_bys O2.out E0.out HV.out.byte
  have HX2 := Lib.hid hx2
  have HG2 := Lib.hid hg2
  have HB12 := Lib.hid (HC1.out.trans B2.out)
  have HM2 := Lib.hid (HM1.out.below HB12.out HM1.out.lt.1 HM1.out.lt.2)
  clear hx2 hg2
  go_wp2_with fail
  refine (write_yes _ _ _ _ _ 0 0 _ _ xs _ HM2.out (by omega) (by rw [E0.out]; omega) rfl HX2.out).mono ?_
  rintro e w3 ⟨rfl, hm3, ho3⟩
  have HM3 := Lib.hid hm3
  have HB3 := Lib.hid ((HB1.out.trans (HB12.out.mono HB1.out.size)).trans (ho3.below (Nat.le_refl _) (Nat.le_trans HB1.out.size HB12.out.size)))
  have HG3 := Lib.hid (show 0 < l0 → ∃ g, A2 = some ⟨g, 0, none⟩ ∧ w1.heap.size ≤ g ∧ Bys w3 g l0 from fun h0 => by
    obtain ⟨g, h1, h2, h3⟩ := HG2.out h0
    exact ⟨g, h1, h2, h3.only ho3 (by have := HM1.out.lt.2; omega)⟩)
  clear hm3 ho3
  go_wp2_with fail
  go_loopw [5] (fun i wr => ∃ k : Nat, k ≤ l0 ∧ i = .int .i64 k ∧ Below w1.heap.size w3 wr ∧ (0 < l0 → ∃ g, A2 = some ⟨g, 0, none⟩ ∧ w1.heap.size ≤ g ∧ Bys wr g l0)) (fun i _ => l0 - (intOf i).toNat)
  case atStart => exact ⟨0, Nat.zero_le _, rfl, Below.refl _ _, HG3.out⟩
  case round =>
    obtain ⟨k, hk, rfl, hbr, hgr⟩ := hrel
    have HBR := Lib.hid hbr
    have HGR := Lib.hid hgr
    clear hbr hgr
    by_cases hlt : k < l0
    · obtain ⟨g, rfl, hge, hys⟩ := HGR.out (by omega)
      have HYS := Lib.hid hys
      obtain ⟨cur, hcur, hall⟩ := hys
      obtain ⟨x, hx, hxc⟩ := hall k hlt
      have hcell : wr.cell? ⟨g, k, none⟩ = some (.int .u8 (x : Int)) := by rw [hcur.cell, hxc]; rfl
      have hfz : wr.frozen? ⟨g, k, none⟩ = false := hcur.frozen _
      obtain ⟨y, hy, hyw⟩ := inc_byte x
      clear hcur hall hxc
      go_wp2
      go_roundw
      case rel => exact ⟨k + 1, by omega, by go_num, HBR.out.setCell hge _, fun _ => ⟨g, rfl, hge, HYS.out.set_ k y hy⟩⟩
      case measure => simp [intOf]; omega
    · obtain rfl : k = l0 := by omega
      obtain ⟨wo, rfl⟩ : ∃ wo : World, wo = wr := ⟨_, rfl⟩
      have HMr := Lib.hid (HM3.out.below HBR.out HM1.out.lt.1 HM1.out.lt.2)
      have HBr := Lib.hid (HB3.out.trans (HBR.out.mono HB1.out.size))
      go_wp2_with fail
      have HWL := Lib.hid (show win (upd (fun _ => zer) 0 (over zer 0 xs) 0) 0 k = xs by
        rw [upd_same, ← E0.out, win_over0 _ _ (by rw [zer_length, E0.out]; exact hl)])
      refine (read_yes _ _ _ _ _ 0 0 k _ HMr.out (by omega) (by omega) rfl).mono ?_
      rintro e w5 ⟨rfl, hk5, hb5, hz5⟩
      rw [HWL.out] at hk5
      have HS5 := Lib.hid (Bys.of_blk hk5 E0.out HV.out.byte)
      have HM5 := Lib.hid (HMr.out.below hb5 HMr.out.lt.1 HMr.out.lt.2)
      have HB5 := Lib.hid (HBr.out.trans (hb5.mono HBr.out.size))
      have HZ5 := Lib.hid hb5.size
      clear hk5 hb5 hz5
      go_wp2_with fail
      go_loopw [8] (fun i wr => ∃ q : Nat, q ≤ k ∧ i = .int .i64 q ∧ Below wo.heap.size w5 wr ∧ Bys wr wo.heap.size k) (fun i _ => k - (intOf i).toNat)
      case atStart => exact ⟨0, Nat.zero_le _, rfl, Below.refl _ _, HS5.out⟩
      case round =>
        obtain ⟨q, hq, rfl, hbq, hys⟩ := hrel
        have HBQ := Lib.hid hbq
        have HYS := Lib.hid hys
        clear hbq
        by_cases hlt' : q < k
        · obtain ⟨cur, hcur, hall⟩ := hys
          obtain ⟨x, hx, hxc⟩ := hall q hlt'
          have hcell : wr.cell? ⟨wo.heap.size, q, none⟩ = some (.int .u8 (x : Int)) := by rw [hcur.cell, hxc]; rfl
          have hfz : wr.frozen? ⟨wo.heap.size, q, none⟩ = false := hcur.frozen _
          obtain ⟨y, hy, hyw⟩ := inc_byte x
          clear hcur hall hxc
          go_wp2
          go_roundw
          case rel => exact ⟨q + 1, by omega, by go_num, HBQ.out.setCell (Nat.le_refl _) _, HYS.out.set_ q y hy⟩
          case measure => simp [intOf]; omega
        · obtain rfl : q = k := by omega
          clear hys
          have HMq := Lib.hid (HM5.out.below HBQ.out HMr.out.lt.1 HMr.out.lt.2)
          have HBq := Lib.hid (HB5.out.trans (HBQ.out.mono HBr.out.size))
          go_wp2_with fail
          refine (read_yes _ _ _ _ _ 0 0 q _ HMq.out (by omega) (by omega) rfl).mono ?_
          rintro e w6 ⟨rfl, hk6, hb6, hz6⟩
          rw [HWL.out] at hk6
          have HK6 := Lib.hid hk6
          have HB6 := Lib.hid (HBq.out.trans (hb6.mono HBq.out.size))
          clear hk6 hb6 hz6
          go_wp2_with fail
          refine (ramAnswers_any _).mono ?_
          rintro e w7 ⟨rfl, hb7⟩
          have HK7 := Lib.hid (HK6.out.below hb7 HK6.out.lt)
          have HB7 := Lib.hid (HB6.out.trans (hb7.mono HB6.out.size))
          clear hb7
          go_wp2_with fail
          refine (same_yes _ _ xs _ _ _ (Bts.of_whole HK7.out E0.out (by unfold maxLen; omega) HV.out.byte) (HV.out.below HB7.out)).mono ?_
          rintro e w8 ⟨rfl, m, rfl⟩
          go_wp2
          go_ret
          exact ⟨rfl, below_drewN HB7.out m⟩
end Go.Proofs.Ytlodeejeeldplaa
