/-
  Layer 16's own question 'answers', SwapNone and SwapFull answer true.
  Conditions: none beside swap's contracts.
-/
import Derived.Test.YthfcmfhmaokioaaSwpL
import Derived.Deep.LoopGhost
namespace Go.Proofs.Ythfcmfhmaokioaa
open Go.RowKit
set_option linter.unusedVariables false

theorem usedS_of {s : SS} {i : Nat} (h : ∀ n, n < 32 → (s n ≠ [] ↔ n < i)) : ∀ m, m ≤ 32 → usedS s m = min i m := by
  intro m
  induction m with
  | zero => intro _; simp [usedS]
  | succ m ih =>
    intro hm
    rw [usedS_succ, ih (by omega)]
    by_cases c : m < i
    · rw [if_pos ((h m (by omega)).2 c)]; omega
    · rw [if_neg (fun hh => c ((h m (by omega)).1 hh))]; omega
theorem take_of {s : SS} {i : Nat} (h : ∀ n, n < 32 → (s n ≠ [] ↔ n < i)) : TakeIs s (if i < 32 then some i else none) := by
  by_cases c : i < 32
  · rw [if_pos c]
    refine ⟨c, ?_, fun m hm => (h m (by omega)).2 hm⟩
    exact Classical.byContradiction fun hh => by have := (h i c).1 hh; omega
  · rw [if_neg c]
    exact fun m hm => (h m hm).2 (by omega)
theorem hold_in {s : SS} {n : Nat} (h : n < 32) (p : Pl) : holdS s (n : Int) p = updS s n (putP (s n) p) := by
  unfold holdS
  rw [if_pos (show isSlot (n : Int) from ⟨by omega, by omega⟩), Int.toNat_natCast]
theorem rel_in {s : SS} {n : Nat} (h : n < 32) (p : Pl) : relS s (n : Int) p = updS s n ((s n).erase p) := by
  unfold relS
  rw [if_pos (show isSlot (n : Int) from ⟨by omega, by omega⟩), Int.toNat_natCast]
theorem in_in {s : SS} {n : Nat} (h : n < 32) (p : Pl) : inS s (n : Int) p = decide (p ∈ s n) := by
  unfold inS
  rw [decide_eq_true (show isSlot (n : Int) from ⟨by omega, by omega⟩), Int.toNat_natCast, Bool.true_and]
theorem isSlot_in {n : Nat} (h : n < 32) : decide (isSlot (n : Int)) = true := decide_eq_true ⟨by omega, by omega⟩
set_option maxRecDepth 20000
set_option maxHeartbeats 1600000
theorem swpAnswers_any (w : World) :
    Calls Try.prog 8 #[] w fun e w' => e = .returned (.bool true) ∧ Below w.heap.size w w' := by
  have T0 : TakeIs ss0 (some 0) := ⟨by omega, rfl, fun m hm => absurd hm (Nat.not_lt_zero _)⟩
  have U1 : usedS (holdS ss0 0 ⟨1, 0⟩) 32 = 1 := by decide
  have I1 : inS (holdS ss0 0 ⟨1, 0⟩) 0 ⟨1, 0⟩ = true := by decide
  have U2 : usedS (relS (holdS ss0 0 ⟨1, 0⟩) 0 ⟨1, 0⟩) 32 = 0 := by decide
  have L0 := Lib.hid (isSlot_in (n := 0) (by omega))
  have HT0 := Lib.hid T0
  have HU1 := Lib.hid U1
  have HI1 := Lib.hid I1
  have HU2 := Lib.hid U2
  clear T0 U1 I1 U2
  go_enter Try.func8, Try.ntmps8
  go_wp2_with fail
  refine (sw_new w w (Below.refl _ _) (fun _ => False) (noZs w)).mono ?_
  rintro e w1 ⟨gS, rfl, h1, -⟩
  have S1 := Lib.hid h1
  clear h1
  have P2 := Lib.hid (sw_take S1.out HT0.out)
  rw [show takeV (some 0) = .tuple #[.int .i64 0, .bool true] from rfl] at P2
  go_wp2_with fail
  refine P2.out.mono ?_
  rintro e w2 ⟨rfl, hb⟩
  have S2 := Lib.hid (S1.out.fresh hb)
  have P3 := Lib.hid (sw_hold S2.out (noZs w2) 0 ⟨1, 0⟩ ⟨by decide, by decide⟩ (by decide))
  rw [show decide (isSlot 0) = true from rfl] at P3
  clear hb
  go_wp2_with fail
  refine P3.out.mono ?_
  rintro e w3 ⟨rfl, h3, -, -, -⟩
  have S3 := Lib.hid h3
  have P4 := Lib.hid (sw_used h3)
  rw [HU1.out] at P4
  clear h3
  go_wp2_with fail
  refine P4.out.mono ?_
  rintro e w4 ⟨rfl, hb⟩
  have S4 := Lib.hid (S3.out.fresh hb)
  have P5 := Lib.hid (sw_release S4.out (noZs w4) 0 ⟨1, 0⟩ ⟨by decide, by decide⟩)
  rw [HI1.out] at P5
  clear hb
  go_wp2_with fail
  refine P5.out.mono ?_
  rintro e w5 ⟨rfl, h5, -, -, -⟩
  have S5 := Lib.hid h5
  have P6 := Lib.hid (sw_used h5)
  rw [HU2.out] at P6
  clear h5
  go_wp2_with fail
  refine P6.out.mono ?_
  rintro e w6 ⟨rfl, hb⟩
  have S6 := Lib.hid (S5.out.fresh hb)
  clear hb
  go_wp2
  go_ret
  exact ⟨rfl, S6.out.bel⟩
theorem swapNone_any (n : Int) (p : Pl) (w : World) :
    Calls Try.prog 5 #[.int .i64 n, .agg #[.int .i64 p.c, .int .i64 p.g]] w fun e w' => e = .returned (.bool true) ∧ Below w.heap.size w w' := by
  obtain ⟨c, g⟩ := p
  have HB := Lib.hid (belAl (Below.refl w.heap.size w) (.cells #[.int .i64 c, .int .i64 g] 29))
  have HK := Lib.hid (Blk.new w 29 #[.int .i64 c, .int .i64 g])
  go_enter Try.func5, Try.ntmps5
  go_wp2_with fail
  refine (swap_take_nil _).mono ?_
  rintro e w1 ⟨rfl, h1⟩
  have B1 := Lib.hid (HB.out.trans (h1.mono HB.out.size))
  have K1 := Lib.hid (HK.out.below h1 HK.out.lt)
  clear h1
  go_wp2_with fail
  refine (swpAnswers_any _).mono ?_
  rintro e w2 ⟨rfl, h2⟩
  have B2 := Lib.hid (B1.out.trans (h2.mono B1.out.size))
  have K2 := Lib.hid (K1.out.below h2 K1.out.lt)
  have k0 := K2.out.cell 0
  have k1 := K2.out.cell 1
  clear h2
  go_wp2_with fail
  refine (swap_hold_nil _ n c g).mono ?_
  rintro e w3 ⟨rfl, h3⟩
  have B3 := Lib.hid (B2.out.trans (h3.mono B2.out.size))
  have K3 := Lib.hid (K2.out.below h3 K2.out.lt)
  clear h3 k0 k1
  have k0 := K3.out.cell 0
  have k1 := K3.out.cell 1
  go_wp2_with fail
  refine (swap_release_nil _ n c g).mono ?_
  rintro e w4 ⟨rfl, h4⟩
  have B4 := Lib.hid (B3.out.trans (h4.mono B3.out.size))
  have K4 := Lib.hid (K3.out.below h4 K3.out.lt)
  clear h4 k0 k1
  go_wp2_with fail
  refine (swap_of_nil _ n).mono ?_
  rintro e w5 ⟨A5, c5, rfl, h5⟩
  have B5 := Lib.hid (B4.out.trans (h5.mono B4.out.size))
  have K5 := Lib.hid (K4.out.below h5 K4.out.lt)
  have k0 := K5.out.cell 0
  clear h5
  go_wp2_with fail
  refine (swap_slots_nil _ c).mono ?_
  rintro e w6 ⟨A6, c6, rfl, h6⟩
  have B6 := Lib.hid (B5.out.trans (h6.mono B5.out.size))
  clear h6 k0
  go_wp2_with fail
  refine (swap_used_nil _).mono ?_
  rintro e w7 ⟨rfl, h7⟩
  have B7 := Lib.hid (B6.out.trans (h7.mono B6.out.size))
  clear h7
  go_wp2
  go_ret
  exact ⟨rfl, B7.out⟩
/-- The first i slots are held, and none by too many. -/
def FullS (s : SS) (i : Nat) : Prop := (∀ n, n < 32 → (s n ≠ [] ↔ n < i)) ∧ ∀ n, (s n).length ≤ i
theorem FullS.zero : FullS ss0 0 := ⟨fun n _ => ⟨fun h => absurd rfl h, fun h => absurd h (Nat.not_lt_zero _)⟩, fun _ => Nat.le_refl _⟩
theorem FullS.next {s : SS} {i : Nat} (h : FullS s i) (p : Pl) : FullS (holdS s (((if i < 32 then i else 0) : Nat) : Int) p) (i + 1) := by
  obtain ⟨n, hn⟩ : ∃ n, n = if i < 32 then i else 0 := ⟨_, rfl⟩
  rw [← hn]
  have hn32 : n < 32 := by rw [hn]; split <;> omega
  rw [hold_in hn32]
  refine ⟨fun m hm => ?_, fun m => ?_⟩
  · by_cases c : m = n
    · subst c
      rw [updS_same]
      refine ⟨fun _ => ?_, fun _ => putP_ne _ _⟩
      rw [hn]; split <;> omega
    · rw [updS_other _ _ _ c, h.1 m hm]
      refine ⟨fun h => by omega, fun h2 => ?_⟩
      rcases Nat.lt_or_ge m i with h3 | h3
      · exact h3
      · have : i < 32 := by omega
        rw [if_pos this] at hn
        omega
  · by_cases c : m = n
    · subst c
      rw [updS_same]
      exact Nat.le_trans (putP_length _ _) (by have := h.2 m; omega)
    · rw [updS_other _ _ _ c]
      exact Nat.le_succ_of_le (h.2 m)
theorem swapFull_any (x : Nat) (w : World) (hx : x < 256) :
    Calls Try.prog 4 #[.int .u8 (x : Int)] w fun e w' => e = .returned (.bool true) ∧ Below w.heap.size w w' := by
  obtain ⟨k, hk⟩ : ∃ k, k = x % 40 := ⟨_, rfl⟩
  have r1 : (x : Int).tmod 40 = (k : Int) := by rw [Int.tmod_eq_emod_of_nonneg (by omega)]; omega
  have r2 : (x : Int) % 40 = (k : Int) := by omega
  have hk40 : k < 40 := by omega
  clear hk
  go_enter Try.func4, Try.ntmps4
  go_wp2_with fail
  refine (sw_new w w (Below.refl _ _) (fun _ => False) (noZs w)).mono ?_
  rintro e w1 ⟨gS, rfl, h1, -⟩
  have S1 := Lib.hid h1
  clear h1
  go_wp2_with fail
  go_loopg [5, 6, 7] k (fun gg s5 _ _ wx => ∃ (i : Nat) (s : SS), i + gg = k ∧ s5 = .int .i64 (i : Int) ∧ SwpT w wx gS s (fun _ => False) ∧ FullS s i)
  case atStart => exact ⟨0, ss0, by omega, rfl, S1.out, FullS.zero⟩
  case round =>
    obtain ⟨i, s, hig, rfl, h5, hf⟩ := hrel
    have S5 := Lib.hid h5
    have F5 := Lib.hid hf
    clear h5 hf S1
    by_cases hlt : i < k
    · have t4 : decide ((i : Int) < (k : Int)) = true := decide_eq_true (by omega)
      have P6 := Lib.hid (sw_take S5.out (take_of F5.out.1))
      have NX := Lib.hid (F5.out.next ⟨(i : Int), 0⟩)
      by_cases c : i < 32
      · have t5 : decide ((i : Int) < 32) = true := decide_eq_true (by omega)
        rw [if_pos c] at P6 NX
        rw [show takeV (some i) = .tuple #[.int .i64 (i : Int), .bool true] from rfl] at P6
        go_wp2_with fail
        refine P6.out.mono ?_
        rintro e w6 ⟨rfl, hb⟩
        have S6 := Lib.hid (S5.out.fresh hb)
        have P7 := Lib.hid (sw_hold S6.out (noZs w6) (i : Int) ⟨(i : Int), 0⟩ ⟨show W64 (i : Int) from WalkArith.wf_i64 (by omega), show W64 0 from by decide⟩ (by rw [Int.toNat_natCast]; have := F5.out.2 i; omega))
        rw [isSlot_in c] at P7
        clear hb
        go_wp2_with fail
        refine P7.out.mono ?_
        rintro e w7 ⟨rfl, h7, -, -, -⟩
        have S7 := Lib.hid h7
        clear h7
        go_wp2_with fail
        go_roundg (k - (i + 1))
        case measure => omega
        case rel => exact ⟨i + 1, _, by omega, by go_num, S7.out, NX.out⟩
      · have t5 : decide ((i : Int) < 32) = false := decide_eq_false (by omega)
        rw [if_neg c] at P6 NX
        rw [show takeV none = .tuple #[.int .i64 0, .bool false] from rfl] at P6
        go_wp2_with fail
        refine P6.out.mono ?_
        rintro e w6 ⟨rfl, hb⟩
        have S6 := Lib.hid (S5.out.fresh hb)
        have P7 := Lib.hid (sw_hold S6.out (noZs w6) 0 ⟨(i : Int), 0⟩ ⟨show W64 (i : Int) from WalkArith.wf_i64 (by omega), show W64 0 from by decide⟩ (by have := F5.out.2 (0 : Int).toNat; omega))
        rw [show decide (isSlot 0) = true from rfl] at P7
        clear hb
        go_wp2_with fail
        refine P7.out.mono ?_
        rintro e w7 ⟨rfl, h7, -, -, -⟩
        have S7 := Lib.hid h7
        clear h7
        go_wp2_with fail
        go_roundg (k - (i + 1))
        case measure => omega
        case rel => exact ⟨i + 1, _, by omega, by go_num, S7.out, NX.out⟩
    · obtain rfl : i = k := by omega
      have t4 : decide ((i : Int) < (i : Int)) = false := decide_eq_false (by omega)
      have US := Lib.hid (usedS_of F5.out.1 32 (Nat.le_refl _))
      by_cases c : 32 < i
      · have t5 : decide (32 < (i : Int)) = true := decide_eq_true (by omega)
        go_wp2_with fail
        refine (swpAnswers_any _).mono ?_
        rintro e w6 ⟨rfl, hb⟩
        have S6 := Lib.hid (S5.out.fresh hb)
        have P7 := Lib.hid (sw_used S6.out)
        rw [US.out, show min i 32 = 32 by omega] at P7
        clear hb
        go_wp2_with fail
        refine P7.out.mono ?_
        rintro e w7 ⟨rfl, hb⟩
        have S7 := Lib.hid (S6.out.fresh hb)
        clear hb
        go_wp2
        go_ret
        exact ⟨rfl, S7.out.bel⟩
      · have t5 : decide (32 < (i : Int)) = false := decide_eq_false (by omega)
        go_wp2_with fail
        refine (swpAnswers_any _).mono ?_
        rintro e w6 ⟨rfl, hb⟩
        have S6 := Lib.hid (S5.out.fresh hb)
        have P7 := Lib.hid (sw_used S6.out)
        rw [US.out, show min i 32 = i by omega] at P7
        clear hb
        go_wp2_with fail
        refine P7.out.mono ?_
        rintro e w7 ⟨rfl, hb⟩
        have S7 := Lib.hid (S6.out.fresh hb)
        clear hb
        go_wp2
        go_ret
        exact ⟨by simp, S7.out.bel⟩
end Go.Proofs.Ythfcmfhmaokioaa
