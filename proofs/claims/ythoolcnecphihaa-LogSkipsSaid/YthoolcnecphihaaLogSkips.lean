/-
  LogSkips answers true for any gap, any gen and any bytes, and writes nothing that was there.
  Conditions: none beside the kinds' own ranges.
-/
import Derived.Test.YthoolcnecphihaaLogF
namespace Go.Proofs.Ythoolcnecphihaa
open Go.RowKit
set_option linter.unusedVariables false

set_option maxHeartbeats 400000 in
theorem logSkips_edge (p g : Int) (A : Option Addr) (l c : Nat) (w : World) (h : 50 < l ∨ g = 0) :
    Calls Try.prog 7 #[.int .u8 p, .int .u32 g, .slice A l c] w fun e w' => e = .returned (.bool true) ∧ Below w.heap.size w w' := by
  by_cases h1 : 50 < l
  · have t1 : decide ((50 : Int) < (l : Int)) = true := decide_eq_true (by omega)
    clear h
    go_enter Try.func7, Try.ntmps7
    go_wp2_with fail
    refine (logAnswers_any _).mono ?_
    rintro e w1 ⟨rfl, hb⟩
    go_wp2
    go_ret
    exact ⟨rfl, hb⟩
  · have t1 : decide ((50 : Int) < (l : Int)) = false := decide_eq_false (by omega)
    obtain rfl : g = 0 := by omega
    clear h
    go_enter Try.func7, Try.ntmps7
    go_wp2_with fail
    refine (logAnswers_any _).mono ?_
    rintro e w1 ⟨rfl, hb⟩
    go_wp2
    go_ret
    exact ⟨rfl, hb⟩

/-- The sectors behind i rounds. -/
def skS (gen k : Nat) (b : List Nat) (i : Nat) : Nat → List Nat := fun j => if j < i ∧ j ≠ k then secL gen j b else zer
theorem skS_step {gen k : Nat} {b : List Nat} {i : Nat} (h : i ≠ k) : upd (skS gen k b i) i (secL gen i b) = skS gen k b (i + 1) := by
  funext j
  unfold upd skS
  by_cases e : j = i
  · subst e
    rw [if_pos rfl, if_pos ⟨by omega, h⟩]
  · rw [if_neg e]
    by_cases c : j < i ∧ j ≠ k
    · rw [if_pos c, if_pos ⟨by omega, c.2⟩]
    · rw [if_neg c, if_neg (by omega)]
theorem skS_skip (gen k : Nat) (b : List Nat) : skS gen k b (k + 1) = skS gen k b k := by
  funext j
  unfold skS
  by_cases c : j < k ∧ j ≠ k
  · rw [if_pos c, if_pos (by omega)]
  · rw [if_neg c, if_neg (by omega)]
theorem skS_at {gen k : Nat} {b : List Nat} {i j : Nat} (h : j < i) (hk : j ≠ k) : skS gen k b i j = secL gen j b := by
  unfold skS
  rw [if_pos ⟨h, hk⟩]
theorem skS_gap (gen k : Nat) (b : List Nat) (i : Nat) : skS gen k b i k = zer := by
  unfold skS
  rw [if_neg (by omega)]
theorem skS_behind {gen k : Nat} {b : List Nat} {i j : Nat} (h : i ≤ j) : skS gen k b i j = zer := by
  unfold skS
  rw [if_neg (by omega)]

/-- What holds ahead of round i. -/
def SkipsAt (w : World) (gen k : Nat) (b : List Nat) (i : Nat) (wx : World) : Prop :=
  Dsk wx (w.heap.size + 2) w.heap.size (w.heap.size + 1) 192 (skS gen k b i) (fun _ => none) Tr.none_ ∧ Below w.heap.size w wx

set_option maxRecDepth 20000 in
set_option maxHeartbeats 1600000 in
theorem logSkips_any (p gen : Nat) (v0 : Value) (b : List Nat) (w : World) (h0 : Bts w w.heap.size v0 b) (hl : b.length ≤ 50) (hp : p < 256) (hg0 : 0 < gen) (hg : gen < 4294967296) :
    Calls Try.prog 7 #[.int .u8 (p : Int), .int .u32 (gen : Int), v0] w fun e w' => e = .returned (.bool true) ∧ Below w.heap.size w w' := by
  have H0 := Lib.hid h0
  obtain ⟨A, l, c, rfl, e0, -⟩ := h0
  have HL := Lib.hid hl
  have t1 : decide ((50 : Int) < (l : Int)) = false := decide_eq_false (by omega)
  have t2 : ((gen : Int) == 0) = false := by simp; omega
  obtain ⟨k, hk, hk2⟩ : ∃ k : Nat, (p : Int) % 60 = (k : Int) ∧ k < 60 := ⟨p % 60, by omega, by omega⟩
  obtain ⟨gm, hgm⟩ : ∃ gm : Nat, gm = gen - 1 := ⟨_, rfl⟩
  have t3 : IntKind.u32.wrap ((gen : Int) - 1) = (gm : Int) := by rw [IntKind.wrap_u32']; omega
  have HG := Lib.hid (show gm < 4294967296 ∧ gm ≠ gen ∧ gen < 4294967296 by omega)
  have HK := Lib.hid hk2
  clear hl e0 hp hk2 hg hg0 hgm
  go_enter Try.func7, Try.ntmps7
  go_wp2_with fail
  refine (dnew_any 192 192 w (by unfold NearD; omega)).mono ?_
  rintro e w1 ⟨rfl, hd1, hb1, hz1⟩
  have HS1 := Lib.hid (show SkipsAt w gen k b 0 w1 from ⟨by
    have e : skS gen k b 0 = fun _ => zer := by funext j; exact skS_behind (Nat.zero_le _)
    rw [e]
    exact hd1, hb1⟩)
  clear hd1 hb1 hz1
  go_wp2_with fail
  clear hk
  go_loopw [9] (fun v wx => ∃ i : Nat, i ≤ 62 ∧ v = .int .i64 i ∧ SkipsAt w gen k b i wx) (fun v _ => 62 - (intOf v).toNat)
  case atStart => exact ⟨0, by omega, rfl, HS1.out⟩
  case round =>
    obtain ⟨i, hi, rfl, hr⟩ := hrel
    have HR := Lib.hid hr
    clear hr
    by_cases hlt : i < 62
    · have t4 : decide ((i : Int) < 62) = true := decide_eq_true (by omega)
      by_cases hik : i = k
      · have t5 : (((i : Nat) : Int) != ((k : Nat) : Int)) = false := by simp [hik]
        go_wp2_with fail
        go_roundw
        case rel =>
          refine ⟨i + 1, by omega, by go_num, ?_, HR.out.2⟩
          subst hik
          rw [skS_skip]
          exact HR.out.1
        case measure => simp [intOf]; omega
      · have t5 : (((i : Nat) : Int) != ((k : Nat) : Int)) = true := by rw [bne_iff_ne]; omega
        go_wp2_with fail
        refine (append_ok _ _ _ _ _ gen i _ b _ wr HR.out.1 (by omega) (H0.out.below HR.out.2) HR.out.2.size HL.out HG.out.2.2 (by omega)).mono ?_
        rintro e w2 ⟨rfl, hd2, ht2⟩
        rw [skS_step hik] at hd2
        have HS2 := Lib.hid (show SkipsAt w gen k b (i + 1) w2 from ⟨hd2, ht2.fresh_ HR.out.2 (Nat.le_refl _) (by omega) (Nat.le_refl _) (by omega)⟩)
        clear hd2 ht2
        go_wp2_with fail
        go_roundw
        case rel => exact ⟨i + 1, by omega, by go_num, HS2.out⟩
        case measure => simp [intOf]; omega
    · obtain rfl : i = 62 := by omega
      go_wp2_with fail
      refine (replay_ok _ _ _ _ _ _ gen _ HR.out.1 (by omega) HG.out.2.2).mono ?_
      rintro e w3 ⟨m3, v3, hs3, rfl, hl3, hd3, ht3⟩
      obtain rfl : m3 = k := hs3.uniq (stop_of (F := skS gen k b 62) (k := k) (f := fun _ => b) (by have := HK.out; omega) (fun j hj => ⟨skS_at (by have := HK.out; omega) (by omega), HL.out⟩) (by rw [skS_gap]; exact zer_none _ _)) (fun j _ => rfl)
      have HN3 := Lib.hid (ht3.fresh_ HR.out.2 (Nat.le_refl _) (by omega) (Nat.le_refl _) (by omega))
      have HD3 := Lib.hid hd3
      obtain ⟨A3, c3, hv3, -⟩ := hl3.shape
      rw [pays_length] at hv3
      subst hv3
      clear hs3 hl3 hd3 ht3
      go_wp2_with fail
      refine (append_ok _ _ _ _ _ gm m3 _ b _ w3 HD3.out (by omega) (H0.out.below HN3.out) HN3.out.size HL.out HG.out.1 (by have := HK.out; omega)).mono ?_
      rintro e w4 ⟨rfl, hd4, ht4⟩
      have HD4 := Lib.hid hd4
      have HN4 := Lib.hid (ht4.fresh_ HN3.out (Nat.le_refl _) (by omega) (Nat.le_refl _) (by omega))
      clear hd4 ht4
      go_wp2_with fail
      refine (replay_ok _ _ _ _ _ _ gen _ HD4.out (by omega) HG.out.2.2).mono ?_
      rintro e w5 ⟨m5, v5, hs5, rfl, hl5, hd5, ht5⟩
      obtain rfl : m5 = m3 := hs5.uniq (stop_of (F := upd (skS gen m3 b 62) m3 (secL gm m3 b)) (k := m3) (f := fun _ => b) (by have := HK.out; omega) (fun j hj => ⟨by rw [upd_other _ _ _ (by omega)]; exact skS_at (by have := HK.out; omega) (by omega), HL.out⟩) (by
        rw [upd_same]
        intro hr
        exact HG.out.2.1 (secL_other HL.out hr HG.out.1 HG.out.2.2).symm)) (fun j _ => rfl)
      have HN5 := Lib.hid (ht5.fresh_ HN4.out (Nat.le_refl _) (by omega) (Nat.le_refl _) (by omega))
      have HD5 := Lib.hid hd5
      obtain ⟨A5, c5, hv5, -⟩ := hl5.shape
      rw [pays_length] at hv5
      subst hv5
      clear hs5 hl5 hd5 ht5
      go_wp2_with fail
      refine (append_ok _ _ _ _ _ gen m5 _ b _ w5 HD5.out (by omega) (H0.out.below HN5.out) HN5.out.size HL.out HG.out.2.2 (by have := HK.out; omega)).mono ?_
      rintro e w6 ⟨rfl, hd6, ht6⟩
      have HD6 := Lib.hid hd6
      have HN6 := Lib.hid (ht6.fresh_ HN5.out (Nat.le_refl _) (by omega) (Nat.le_refl _) (by omega))
      clear hd6 ht6
      go_wp2_with fail
      refine (replay_ok _ _ _ _ _ _ gen _ HD6.out (by omega) HG.out.2.2).mono ?_
      rintro e w7 ⟨m7, v7, hs7, rfl, hl7, hd7, ht7⟩
      obtain rfl : m7 = 62 := hs7.uniq (stop_of (F := upd (upd (skS gen m5 b 62) m5 (secL gm m5 b)) m5 (secL gen m5 b)) (k := 62) (f := fun _ => b) (by omega) (fun j hj => by
        by_cases e : j = m5
        · subst e
          exact ⟨upd_same _ _ _, HL.out⟩
        · rw [upd_other _ _ _ e, upd_other _ _ _ e]
          exact ⟨skS_at hj e, HL.out⟩) (by
        have := HK.out
        rw [upd_other _ _ _ (by omega), upd_other _ _ _ (by omega), skS_behind (Nat.le_refl _)]
        exact zer_none _ _)) (fun j _ => rfl)
      have HN7 := Lib.hid (ht7.fresh_ HN6.out (Nat.le_refl _) (by omega) (Nat.le_refl _) (by omega))
      obtain ⟨A7, c7, hv7, -⟩ := hl7.shape
      rw [pays_length] at hv7
      subst hv7
      clear hs7 hl7 hd7 ht7
      go_wp2_with fail
      refine (logAnswers_any _).mono ?_
      rintro e w8 ⟨rfl, hb8⟩
      have HN8 := Lib.hid (HN7.out.trans (hb8.mono HN7.out.size))
      clear hb8
      go_wp2
      go_ret
      exact ⟨by simp, HN8.out⟩
end Go.Proofs.Ythoolcnecphihaa
