/-
  RunsWhole answers true.
  Conditions: none.
-/
import Derived.Test.YtfnegbcpiejdaabRunL
import Derived.Deep.LoopGhost
namespace Go.Proofs.Ytfnegbcpiejdaab
open Go.RowKit
set_option linter.unusedVariables false

theorem all_run {l : List Bool} {k o : Nat} (hl : l.length = k) (hk : 32 ≤ k) (ho : o ≤ 4) (ha : ∀ j, j < k → l.getD j false = true) {r : Option Nat} (h : RunIs l (o : Int) 0 (k : Int) r) : r = some 0 := by
  have hp : 2 ^ o ≤ 2 ^ 4 := Nat.pow_le_pow_right (by omega) ho
  have hq : (2 : Nat) ^ 4 = 16 := rfl
  refine h.uniq ⟨by omega, by omega, ⟨Nat.zero_mod _, ?_, by omega, ?_, fun j _ hj => ha j ?_⟩, fun g hg => absurd hg (by omega)⟩
  · rw [show ((o : Int)).toNat = o by simp]; omega
  · rw [show ((o : Int)).toNat = o by simp]; omega
  · rw [show ((o : Int)).toNat = o by simp] at hj; omega
theorem gap_run {l : List Bool} {k o g : Nat} (hl : l.length = k) (hk : 32 ≤ k) (ho : o ≤ 4) (hg : g < 2 ^ o) (ha : ∀ j, j < k → l.getD j false = true) {a : Int} (h0 : 0 ≤ a) (h1 : a ≤ 1) {r : Option Nat} (h : RunIs (l.set g false) (o : Int) a (k : Int) r) : r = some (2 ^ o) := by
  have hp : 2 ^ o ≤ 2 ^ 4 := Nat.pow_le_pow_right (by omega) ho
  have hq : (2 : Nat) ^ 4 = 16 := rfl
  have hz : 0 < 2 ^ o := Nat.pow_pos (by omega)
  have hne : ∀ j, j ≠ g → (l.set g false).getD j false = l.getD j false := fun j hj => by
    simp only [List.getD_eq_getElem?_getD]
    rw [List.getElem?_set_ne (fun e => hj e.symm)]
  refine h.uniq ⟨by omega, by omega, ?_, ?_⟩
  · rw [show ((o : Int)).toNat = o by simp]
    refine ⟨Nat.mod_self _, by rw [List.length_set, hl]; omega, by omega, by omega, fun j h2 h3 => ?_⟩
    rw [hne j (by omega)]
    exact ha j (by omega)
  · rw [show ((o : Int)).toNat = o by simp]
    rintro f hf ⟨k1, _, _, _, k5⟩
    rw [Nat.mod_eq_of_lt hf] at k1
    subst k1
    have := k5 g (Nat.zero_le _) (by omega)
    rw [List.getD_eq_getElem?_getD, List.getElem?_set_self (by omega)] at this
    cases this
theorem bads_drop {l : List Bool} {g : Nat} (hg : l.getD g false = true) : ∀ k, (bads (l.set g false) k).length + (if g < k then 1 else 0) = (bads l k).length := by
  intro k
  have hgl : g < l.length := by
    by_cases c : g < l.length
    · exact c
    · rw [List.getD_eq_getElem?_getD, List.getElem?_eq_none (by omega)] at hg
      cases hg
  induction k with
  | zero => simp [bads]
  | succ k ih =>
    rw [bads_succ, bads_succ, List.length_append, List.length_append]
    by_cases e : k = g
    · subst e
      have h1 : (l.set k false).getD k false = false := by
        rw [List.getD_eq_getElem?_getD, List.getElem?_set_self hgl]; rfl
      have e1 : (if k < k + 1 then 1 else 0) = 1 := if_pos (by omega)
      have e2 : (if k < k then 1 else 0) = 0 := if_neg (by omega)
      rw [if_neg (by rw [h1]; simp), if_pos hg]
      simp only [List.length_nil, List.length_cons]
      omega
    · have h1 : (l.set g false).getD k false = l.getD k false := by
        simp only [List.getD_eq_getElem?_getD]
        rw [List.getElem?_set_ne (fun h => e h.symm)]
      rw [h1]
      by_cases c : g < k
      · have e1 : (if g < k + 1 then 1 else 0) = 1 := if_pos (by omega)
        have e2 : (if g < k then 1 else 0) = 1 := if_pos c
        omega
      · have e1 : (if g < k + 1 then 1 else 0) = 0 := if_neg (by omega)
        have e2 : (if g < k then 1 else 0) = 0 := if_neg c
        omega
theorem bads_full {l : List Bool} : ∀ k, (∀ j, j < k → l.getD j false = true) → (bads l k).length = k := by
  intro k
  induction k with
  | zero => intro _; simp [bads]
  | succ k ih =>
    intro h
    rw [bads_succ, List.length_append, ih (fun j hj => h j (by omega)), if_pos (h k (by omega))]
    simp

set_option maxRecDepth 20000 in
set_option maxHeartbeats 3200000 in
theorem runsWhole_any (n o q : Nat) (w : World) (hn : n < 256) (ho : o < 256) (hq : q < 256) :
    Calls Try.prog 4 #[.int .u8 (n : Int), .int .u8 (o : Int), .int .u8 (q : Int)] w fun e w' => e = .returned (.bool true) ∧ Below w.heap.size w w' := by
  obtain ⟨m, hm⟩ : ∃ m, m = n % 64 := ⟨_, rfl⟩
  obtain ⟨k, hk⟩ : ∃ k, k = m + 32 := ⟨_, rfl⟩
  obtain ⟨p, hp⟩ : ∃ p, p = o % 5 := ⟨_, rfl⟩
  have hk32 : 32 ≤ k := by omega
  have hk95 : k ≤ 95 := by omega
  have hp4 : p ≤ 4 := by omega
  have r1 : (n : Int).tmod 64 = (m : Int) := by rw [Int.tmod_eq_emod_of_nonneg (by omega)]; omega
  have r1' : (n : Int) % 64 = (m : Int) := by omega
  have r2 : (m : Int) + 32 = (k : Int) := by omega
  have r3 : (o : Int).tmod 5 = (p : Int) := by rw [Int.tmod_eq_emod_of_nonneg (by omega)]; omega
  have r3' : (o : Int) % 5 = (p : Int) := by omega
  have HKM := Lib.hid hk
  clear hm hp hk
  go_enter Try.func4, Try.ntmps4
  go_wp2_with fail
  refine (runs_new (k : Int) w).mono ?_
  rintro e w1 ⟨gS, K, rfl, hm1, hk1, hb1⟩
  have hcut : cutN (k : Int) = k := by unfold cutN; rw [if_neg (by omega), if_neg (by omega)]; simp
  rw [hcut] at hm1
  have HS1 := Lib.hid (show ∃ K l, RunMem w1 gS K l ∧ l.length = k ∧ (∀ j, j < k → l.getD j false = decide (j < 0)) ∧ (∀ x, K x → w.heap.size ≤ x) ∧ Below w.heap.size w w1 from
    ⟨K, _, hm1, by simp, fun j hj => by simp [hj], hk1, hb1⟩)
  clear hm1 hk1 hb1
  go_wp2_with fail
  go_loopg [9] k (fun gg s9 wx => ∃ i : Nat, i + gg = k ∧ s9 = .int .i64 (i : Int) ∧ ∃ K l, RunMem wx gS K l ∧ l.length = k ∧ (∀ j, j < k → l.getD j false = decide (j < i)) ∧ (∀ x, K x → w.heap.size ≤ x) ∧ Below w.heap.size w wx)
  case atStart => exact ⟨0, by omega, rfl, HS1.out⟩
  case round =>
    obtain ⟨i, hig, rfl, K, l, hm2, hl2, hg2, hk2, hb2⟩ := hrel
    have HM2 := Lib.hid hm2
    have HL2 := Lib.hid hl2
    have HG2 := Lib.hid hg2
    have HK2 := Lib.hid hk2
    have HB2 := Lib.hid hb2
    clear hm2 hl2 hg2 hk2 hb2
    by_cases hlt : i < k
    · have t4 : decide ((i : Int) < (k : Int)) = true := decide_eq_true (by omega)
      have A3 := Lib.hid (show Below wr.heap.size wr (wr.alloc (.cells #[.int .i64 (i : Int)] 3)) from (Below.refl _ _).alloc (Nat.le_refl _) _)
      have I3 := Lib.hid (show Its (wr.alloc (.cells #[.int .i64 (i : Int)] 3)) (wr.alloc (.cells #[.int .i64 (i : Int)] 3)).heap.size (.slice (some ⟨wr.heap.size, 0, none⟩) 1 1) [(i : Int)] from Its.of_lit (xs := [(i : Int)]) (Blk.new wr _ _) (by simp [maxLen]))
      have O3 := Lib.hid (show Off K (.slice (some ⟨wr.heap.size, 0, none⟩) 1 1) from fun b o s n c e _ hx => by
        injection e with e
        injection e with e
        injection e with e
        have := HM2.out.lt b hx
        omega)
      have M3 := Lib.hid (HM2.out.fresh A3.out)
      go_wp2_with fail
      refine (runs_add gS K l _ [(i : Int)] _ M3.out I3.out O3.out).mono ?_
      rintro e w4 ⟨K4, rfl, hm4, hk4, ht4⟩
      have hput : putB l true [(i : Int)] = l.set i true := by
        show putB (if 0 ≤ (i : Int) ∧ (i : Int) < (l.length : Int) then l.set ((i : Int)).toNat true else l) true [] = _
        rw [if_pos (by rw [HL2.out]; omega)]
        simp [putB]
      rw [hput] at hm4
      have HB3 := Lib.hid (HB2.out.trans (A3.out.mono HB2.out.size))
      have HS4 := Lib.hid (show ∃ K l, RunMem w4 gS K l ∧ l.length = k ∧ (∀ j, j < k → l.getD j false = decide (j < i + 1)) ∧ (∀ x, K x → w.heap.size ≤ x) ∧ Below w.heap.size w w4 from by
        refine ⟨K4, _, hm4, by rw [List.length_set]; exact HL2.out, fun j hj => ?_, fun x hx => ?_, HB3.out.trans (ht4.below HK2.out HB3.out.size)⟩
        · by_cases e : j = i
          · subst e
            rw [List.getD_eq_getElem?_getD, List.getElem?_set_self (by rw [HL2.out]; exact hj)]
            simp
          · have h1 : (l.set i true).getD j false = l.getD j false := by
              simp only [List.getD_eq_getElem?_getD]
              rw [List.getElem?_set_ne (fun h => e h.symm)]
            rw [h1, HG2.out j hj]
            congr 1
            apply propext
            omega
        · rcases hk4 x hx with h | h
          · exact HK2.out x h
          · exact Nat.le_trans HB3.out.size h)
      clear hm4 hk4 ht4 hput
      go_wp2_with fail
      go_roundg (k - (i + 1))
      case measure => omega
      case rel => exact ⟨i + 1, by omega, by go_num, HS4.out⟩
    · obtain rfl : i = k := by omega
      have t4 : decide ((i : Int) < (i : Int)) = false := decide_eq_false (by omega)
      have HA := Lib.hid (show ∀ j, j < i → l.getD j false = true from fun j hj => by rw [HG2.out j hj]; exact decide_eq_true hj)
      have R1 := Lib.hid (fun (r : Option Nat) (h : RunIs l (p : Int) 0 (i : Int) r) => all_run HL2.out hk32 hp4 HA.out h)
      clear HG2 HS1
      have hp5 : p = 0 ∨ p = 1 ∨ p = 2 ∨ p = 3 ∨ p = 4 := by omega
      rcases hp5 with rfl | rfl | rfl | rfl | rfl
      · skip
        obtain ⟨g, hg⟩ : ∃ g, g = q % 1 := ⟨_, rfl⟩
        have hg1 : g < 2 ^ 0 := by rw [hg]; exact Nat.mod_lt _ (by decide)
        have s1 : (q : Int).tmod 1 = (g : Int) := by rw [Int.tmod_eq_emod_of_nonneg (by omega)]; omega
        have s2 : (q : Int) % 1 = (g : Int) := by omega
        have d1 : decide ((2 : Int) ≤ (i : Int)) = true := decide_eq_true (by omega)
        have HGL := Lib.hid (show g < i from by have h2 : (2 : Nat) ^ 0 = 1 := rfl; omega)
        have HPUT := Lib.hid (show putB l false [(g : Int)] = l.set g false from by
          show putB (if 0 ≤ (g : Int) ∧ (g : Int) < (l.length : Int) then l.set ((g : Int)).toNat false else l) false [] = _
          rw [if_pos (by rw [HL2.out]; have := HGL.out; omega)]
          simp [putB])
        have R3 := Lib.hid (fun (a : Int) (h0 : 0 ≤ a) (h1 : a ≤ 1) (r : Option Nat) (h : RunIs (l.set g false) ((0 : Nat) : Int) a (i : Int) r) => gap_run (o := 0) HL2.out hk32 (by omega) hg1 HA.out h0 h1 h)
        have HCN := Lib.hid (show ((bads (l.set g false) (l.set g false).length).length : Int) = (i : Int) - 1 from by
          have h1 := bads_drop (HA.out g HGL.out) i
          rw [if_pos HGL.out, bads_full i HA.out] at h1
          rw [List.length_set, HL2.out]
          omega)
        clear hg
        go_wp2_with fail
        refine (runs_run gS K l 0 0 (i : Int) wr HM2.out).mono ?_
        rintro e w4 ⟨r, rfl, hr, hb4⟩
        obtain rfl : r = some 0 := R1.out _ hr
        have HM4 := Lib.hid (HM2.out.fresh hb4)
        have HB4 := Lib.hid (HB2.out.trans (hb4.mono HB2.out.size))
        clear hr hb4
        unfold runV
        have A5 := Lib.hid (show Below w4.heap.size w4 (w4.alloc (.cells #[.int .i64 (g : Int)] 3)) from (Below.refl _ _).alloc (Nat.le_refl _) _)
        have I5 := Lib.hid (show Its (w4.alloc (.cells #[.int .i64 (g : Int)] 3)) (w4.alloc (.cells #[.int .i64 (g : Int)] 3)).heap.size (.slice (some ⟨w4.heap.size, 0, none⟩) 1 1) [(g : Int)] from Its.of_lit (xs := [(g : Int)]) (Blk.new w4 _ _) (by simp [maxLen]))
        have O5 := Lib.hid (show Off K (.slice (some ⟨w4.heap.size, 0, none⟩) 1 1) from fun b o s n c e _ hx => by
          injection e with e
          injection e with e
          injection e with e
          have := HM4.out.lt b hx
          omega)
        have M5 := Lib.hid (HM4.out.fresh A5.out)
        go_wp2_with fail
        refine (runs_drop gS K l _ [(g : Int)] _ M5.out I5.out O5.out).mono ?_
        rintro e w6 ⟨K6, rfl, hm6, hk6, ht6⟩
        rw [HPUT.out] at hm6
        have HM6 := Lib.hid hm6
        have HB5 := Lib.hid (HB4.out.trans (A5.out.mono HB4.out.size))
        have HB6 := Lib.hid (HB5.out.trans (ht6.below HK2.out HB5.out.size))
        clear hm6 hk6 ht6
        go_wp2_with fail
        refine (runs_run gS K6 _ 0 0 (i : Int) w6 HM6.out).mono ?_
        rintro e w7 ⟨r, rfl, hr, hb7⟩
        obtain rfl : r = some (2 ^ 0) := R3.out 0 (by omega) (by omega) r hr
        have HM7 := Lib.hid (HM6.out.fresh hb7)
        have HB7 := Lib.hid (HB6.out.trans (hb7.mono HB6.out.size))
        clear hr hb7
        unfold runV
        go_wp2_with fail
        refine (runs_run gS K6 _ 0 1 (i : Int) w7 HM7.out).mono ?_
        rintro e w8 ⟨r, rfl, hr, hb8⟩
        obtain rfl : r = some (2 ^ 0) := R3.out 1 (by omega) (by omega) r hr
        have HM8 := Lib.hid (HM7.out.fresh hb8)
        have HB8 := Lib.hid (HB7.out.trans (hb8.mono HB7.out.size))
        clear hr hb8
        unfold runV
        go_wp2_with fail
        refine (runAnswers_any _).mono ?_
        rintro e w9 ⟨rfl, hb9⟩
        have HM9 := Lib.hid (HM8.out.fresh hb9)
        have HB9 := Lib.hid (HB8.out.trans (hb9.mono HB8.out.size))
        clear hb9
        go_wp2_with fail
        refine (runs_count gS K6 _ w9 HM9.out).mono ?_
        rintro e w10 ⟨rfl, hb10⟩
        have HB10 := Lib.hid (HB9.out.trans (hb10.mono HB9.out.size))
        rw [HCN.out]
        clear hb10
        go_wp2
        go_ret
        exact ⟨by simp, HB10.out⟩
      · skip
        obtain ⟨g, hg⟩ : ∃ g, g = q % 2 := ⟨_, rfl⟩
        have hg1 : g < 2 ^ 1 := by rw [hg]; exact Nat.mod_lt _ (by decide)
        have s1 : (q : Int).tmod 2 = (g : Int) := by rw [Int.tmod_eq_emod_of_nonneg (by omega)]; omega
        have s2 : (q : Int) % 2 = (g : Int) := by omega
        have d1 : decide ((4 : Int) ≤ (i : Int)) = true := decide_eq_true (by omega)
        have HGL := Lib.hid (show g < i from by have h2 : (2 : Nat) ^ 1 = 2 := rfl; omega)
        have HPUT := Lib.hid (show putB l false [(g : Int)] = l.set g false from by
          show putB (if 0 ≤ (g : Int) ∧ (g : Int) < (l.length : Int) then l.set ((g : Int)).toNat false else l) false [] = _
          rw [if_pos (by rw [HL2.out]; have := HGL.out; omega)]
          simp [putB])
        have R3 := Lib.hid (fun (a : Int) (h0 : 0 ≤ a) (h1 : a ≤ 1) (r : Option Nat) (h : RunIs (l.set g false) ((1 : Nat) : Int) a (i : Int) r) => gap_run (o := 1) HL2.out hk32 (by omega) hg1 HA.out h0 h1 h)
        have HCN := Lib.hid (show ((bads (l.set g false) (l.set g false).length).length : Int) = (i : Int) - 1 from by
          have h1 := bads_drop (HA.out g HGL.out) i
          rw [if_pos HGL.out, bads_full i HA.out] at h1
          rw [List.length_set, HL2.out]
          omega)
        clear hg
        go_wp2_with fail
        refine (runs_run gS K l 1 0 (i : Int) wr HM2.out).mono ?_
        rintro e w4 ⟨r, rfl, hr, hb4⟩
        obtain rfl : r = some 0 := R1.out _ hr
        have HM4 := Lib.hid (HM2.out.fresh hb4)
        have HB4 := Lib.hid (HB2.out.trans (hb4.mono HB2.out.size))
        clear hr hb4
        unfold runV
        have A5 := Lib.hid (show Below w4.heap.size w4 (w4.alloc (.cells #[.int .i64 (g : Int)] 3)) from (Below.refl _ _).alloc (Nat.le_refl _) _)
        have I5 := Lib.hid (show Its (w4.alloc (.cells #[.int .i64 (g : Int)] 3)) (w4.alloc (.cells #[.int .i64 (g : Int)] 3)).heap.size (.slice (some ⟨w4.heap.size, 0, none⟩) 1 1) [(g : Int)] from Its.of_lit (xs := [(g : Int)]) (Blk.new w4 _ _) (by simp [maxLen]))
        have O5 := Lib.hid (show Off K (.slice (some ⟨w4.heap.size, 0, none⟩) 1 1) from fun b o s n c e _ hx => by
          injection e with e
          injection e with e
          injection e with e
          have := HM4.out.lt b hx
          omega)
        have M5 := Lib.hid (HM4.out.fresh A5.out)
        go_wp2_with fail
        refine (runs_drop gS K l _ [(g : Int)] _ M5.out I5.out O5.out).mono ?_
        rintro e w6 ⟨K6, rfl, hm6, hk6, ht6⟩
        rw [HPUT.out] at hm6
        have HM6 := Lib.hid hm6
        have HB5 := Lib.hid (HB4.out.trans (A5.out.mono HB4.out.size))
        have HB6 := Lib.hid (HB5.out.trans (ht6.below HK2.out HB5.out.size))
        clear hm6 hk6 ht6
        go_wp2_with fail
        refine (runs_run gS K6 _ 1 0 (i : Int) w6 HM6.out).mono ?_
        rintro e w7 ⟨r, rfl, hr, hb7⟩
        obtain rfl : r = some (2 ^ 1) := R3.out 0 (by omega) (by omega) r hr
        have HM7 := Lib.hid (HM6.out.fresh hb7)
        have HB7 := Lib.hid (HB6.out.trans (hb7.mono HB6.out.size))
        clear hr hb7
        unfold runV
        go_wp2_with fail
        refine (runs_run gS K6 _ 1 1 (i : Int) w7 HM7.out).mono ?_
        rintro e w8 ⟨r, rfl, hr, hb8⟩
        obtain rfl : r = some (2 ^ 1) := R3.out 1 (by omega) (by omega) r hr
        have HM8 := Lib.hid (HM7.out.fresh hb8)
        have HB8 := Lib.hid (HB7.out.trans (hb8.mono HB7.out.size))
        clear hr hb8
        unfold runV
        go_wp2_with fail
        refine (runAnswers_any _).mono ?_
        rintro e w9 ⟨rfl, hb9⟩
        have HM9 := Lib.hid (HM8.out.fresh hb9)
        have HB9 := Lib.hid (HB8.out.trans (hb9.mono HB8.out.size))
        clear hb9
        go_wp2_with fail
        refine (runs_count gS K6 _ w9 HM9.out).mono ?_
        rintro e w10 ⟨rfl, hb10⟩
        have HB10 := Lib.hid (HB9.out.trans (hb10.mono HB9.out.size))
        rw [HCN.out]
        clear hb10
        go_wp2
        go_ret
        exact ⟨by simp, HB10.out⟩
      · skip
        obtain ⟨g, hg⟩ : ∃ g, g = q % 4 := ⟨_, rfl⟩
        have hg1 : g < 2 ^ 2 := by rw [hg]; exact Nat.mod_lt _ (by decide)
        have s1 : (q : Int).tmod 4 = (g : Int) := by rw [Int.tmod_eq_emod_of_nonneg (by omega)]; omega
        have s2 : (q : Int) % 4 = (g : Int) := by omega
        have d1 : decide ((8 : Int) ≤ (i : Int)) = true := decide_eq_true (by omega)
        have HGL := Lib.hid (show g < i from by have h2 : (2 : Nat) ^ 2 = 4 := rfl; omega)
        have HPUT := Lib.hid (show putB l false [(g : Int)] = l.set g false from by
          show putB (if 0 ≤ (g : Int) ∧ (g : Int) < (l.length : Int) then l.set ((g : Int)).toNat false else l) false [] = _
          rw [if_pos (by rw [HL2.out]; have := HGL.out; omega)]
          simp [putB])
        have R3 := Lib.hid (fun (a : Int) (h0 : 0 ≤ a) (h1 : a ≤ 1) (r : Option Nat) (h : RunIs (l.set g false) ((2 : Nat) : Int) a (i : Int) r) => gap_run (o := 2) HL2.out hk32 (by omega) hg1 HA.out h0 h1 h)
        have HCN := Lib.hid (show ((bads (l.set g false) (l.set g false).length).length : Int) = (i : Int) - 1 from by
          have h1 := bads_drop (HA.out g HGL.out) i
          rw [if_pos HGL.out, bads_full i HA.out] at h1
          rw [List.length_set, HL2.out]
          omega)
        clear hg
        go_wp2_with fail
        refine (runs_run gS K l 2 0 (i : Int) wr HM2.out).mono ?_
        rintro e w4 ⟨r, rfl, hr, hb4⟩
        obtain rfl : r = some 0 := R1.out _ hr
        have HM4 := Lib.hid (HM2.out.fresh hb4)
        have HB4 := Lib.hid (HB2.out.trans (hb4.mono HB2.out.size))
        clear hr hb4
        unfold runV
        have A5 := Lib.hid (show Below w4.heap.size w4 (w4.alloc (.cells #[.int .i64 (g : Int)] 3)) from (Below.refl _ _).alloc (Nat.le_refl _) _)
        have I5 := Lib.hid (show Its (w4.alloc (.cells #[.int .i64 (g : Int)] 3)) (w4.alloc (.cells #[.int .i64 (g : Int)] 3)).heap.size (.slice (some ⟨w4.heap.size, 0, none⟩) 1 1) [(g : Int)] from Its.of_lit (xs := [(g : Int)]) (Blk.new w4 _ _) (by simp [maxLen]))
        have O5 := Lib.hid (show Off K (.slice (some ⟨w4.heap.size, 0, none⟩) 1 1) from fun b o s n c e _ hx => by
          injection e with e
          injection e with e
          injection e with e
          have := HM4.out.lt b hx
          omega)
        have M5 := Lib.hid (HM4.out.fresh A5.out)
        go_wp2_with fail
        refine (runs_drop gS K l _ [(g : Int)] _ M5.out I5.out O5.out).mono ?_
        rintro e w6 ⟨K6, rfl, hm6, hk6, ht6⟩
        rw [HPUT.out] at hm6
        have HM6 := Lib.hid hm6
        have HB5 := Lib.hid (HB4.out.trans (A5.out.mono HB4.out.size))
        have HB6 := Lib.hid (HB5.out.trans (ht6.below HK2.out HB5.out.size))
        clear hm6 hk6 ht6
        go_wp2_with fail
        refine (runs_run gS K6 _ 2 0 (i : Int) w6 HM6.out).mono ?_
        rintro e w7 ⟨r, rfl, hr, hb7⟩
        obtain rfl : r = some (2 ^ 2) := R3.out 0 (by omega) (by omega) r hr
        have HM7 := Lib.hid (HM6.out.fresh hb7)
        have HB7 := Lib.hid (HB6.out.trans (hb7.mono HB6.out.size))
        clear hr hb7
        unfold runV
        go_wp2_with fail
        refine (runs_run gS K6 _ 2 1 (i : Int) w7 HM7.out).mono ?_
        rintro e w8 ⟨r, rfl, hr, hb8⟩
        obtain rfl : r = some (2 ^ 2) := R3.out 1 (by omega) (by omega) r hr
        have HM8 := Lib.hid (HM7.out.fresh hb8)
        have HB8 := Lib.hid (HB7.out.trans (hb8.mono HB7.out.size))
        clear hr hb8
        unfold runV
        go_wp2_with fail
        refine (runAnswers_any _).mono ?_
        rintro e w9 ⟨rfl, hb9⟩
        have HM9 := Lib.hid (HM8.out.fresh hb9)
        have HB9 := Lib.hid (HB8.out.trans (hb9.mono HB8.out.size))
        clear hb9
        go_wp2_with fail
        refine (runs_count gS K6 _ w9 HM9.out).mono ?_
        rintro e w10 ⟨rfl, hb10⟩
        have HB10 := Lib.hid (HB9.out.trans (hb10.mono HB9.out.size))
        rw [HCN.out]
        clear hb10
        go_wp2
        go_ret
        exact ⟨by simp, HB10.out⟩
      · skip
        obtain ⟨g, hg⟩ : ∃ g, g = q % 8 := ⟨_, rfl⟩
        have hg1 : g < 2 ^ 3 := by rw [hg]; exact Nat.mod_lt _ (by decide)
        have s1 : (q : Int).tmod 8 = (g : Int) := by rw [Int.tmod_eq_emod_of_nonneg (by omega)]; omega
        have s2 : (q : Int) % 8 = (g : Int) := by omega
        have d1 : decide ((16 : Int) ≤ (i : Int)) = true := decide_eq_true (by omega)
        have HGL := Lib.hid (show g < i from by have h2 : (2 : Nat) ^ 3 = 8 := rfl; omega)
        have HPUT := Lib.hid (show putB l false [(g : Int)] = l.set g false from by
          show putB (if 0 ≤ (g : Int) ∧ (g : Int) < (l.length : Int) then l.set ((g : Int)).toNat false else l) false [] = _
          rw [if_pos (by rw [HL2.out]; have := HGL.out; omega)]
          simp [putB])
        have R3 := Lib.hid (fun (a : Int) (h0 : 0 ≤ a) (h1 : a ≤ 1) (r : Option Nat) (h : RunIs (l.set g false) ((3 : Nat) : Int) a (i : Int) r) => gap_run (o := 3) HL2.out hk32 (by omega) hg1 HA.out h0 h1 h)
        have HCN := Lib.hid (show ((bads (l.set g false) (l.set g false).length).length : Int) = (i : Int) - 1 from by
          have h1 := bads_drop (HA.out g HGL.out) i
          rw [if_pos HGL.out, bads_full i HA.out] at h1
          rw [List.length_set, HL2.out]
          omega)
        clear hg
        go_wp2_with fail
        refine (runs_run gS K l 3 0 (i : Int) wr HM2.out).mono ?_
        rintro e w4 ⟨r, rfl, hr, hb4⟩
        obtain rfl : r = some 0 := R1.out _ hr
        have HM4 := Lib.hid (HM2.out.fresh hb4)
        have HB4 := Lib.hid (HB2.out.trans (hb4.mono HB2.out.size))
        clear hr hb4
        unfold runV
        have A5 := Lib.hid (show Below w4.heap.size w4 (w4.alloc (.cells #[.int .i64 (g : Int)] 3)) from (Below.refl _ _).alloc (Nat.le_refl _) _)
        have I5 := Lib.hid (show Its (w4.alloc (.cells #[.int .i64 (g : Int)] 3)) (w4.alloc (.cells #[.int .i64 (g : Int)] 3)).heap.size (.slice (some ⟨w4.heap.size, 0, none⟩) 1 1) [(g : Int)] from Its.of_lit (xs := [(g : Int)]) (Blk.new w4 _ _) (by simp [maxLen]))
        have O5 := Lib.hid (show Off K (.slice (some ⟨w4.heap.size, 0, none⟩) 1 1) from fun b o s n c e _ hx => by
          injection e with e
          injection e with e
          injection e with e
          have := HM4.out.lt b hx
          omega)
        have M5 := Lib.hid (HM4.out.fresh A5.out)
        go_wp2_with fail
        refine (runs_drop gS K l _ [(g : Int)] _ M5.out I5.out O5.out).mono ?_
        rintro e w6 ⟨K6, rfl, hm6, hk6, ht6⟩
        rw [HPUT.out] at hm6
        have HM6 := Lib.hid hm6
        have HB5 := Lib.hid (HB4.out.trans (A5.out.mono HB4.out.size))
        have HB6 := Lib.hid (HB5.out.trans (ht6.below HK2.out HB5.out.size))
        clear hm6 hk6 ht6
        go_wp2_with fail
        refine (runs_run gS K6 _ 3 0 (i : Int) w6 HM6.out).mono ?_
        rintro e w7 ⟨r, rfl, hr, hb7⟩
        obtain rfl : r = some (2 ^ 3) := R3.out 0 (by omega) (by omega) r hr
        have HM7 := Lib.hid (HM6.out.fresh hb7)
        have HB7 := Lib.hid (HB6.out.trans (hb7.mono HB6.out.size))
        clear hr hb7
        unfold runV
        go_wp2_with fail
        refine (runs_run gS K6 _ 3 1 (i : Int) w7 HM7.out).mono ?_
        rintro e w8 ⟨r, rfl, hr, hb8⟩
        obtain rfl : r = some (2 ^ 3) := R3.out 1 (by omega) (by omega) r hr
        have HM8 := Lib.hid (HM7.out.fresh hb8)
        have HB8 := Lib.hid (HB7.out.trans (hb8.mono HB7.out.size))
        clear hr hb8
        unfold runV
        go_wp2_with fail
        refine (runAnswers_any _).mono ?_
        rintro e w9 ⟨rfl, hb9⟩
        have HM9 := Lib.hid (HM8.out.fresh hb9)
        have HB9 := Lib.hid (HB8.out.trans (hb9.mono HB8.out.size))
        clear hb9
        go_wp2_with fail
        refine (runs_count gS K6 _ w9 HM9.out).mono ?_
        rintro e w10 ⟨rfl, hb10⟩
        have HB10 := Lib.hid (HB9.out.trans (hb10.mono HB9.out.size))
        rw [HCN.out]
        clear hb10
        go_wp2
        go_ret
        exact ⟨by simp, HB10.out⟩
      · skip
        obtain ⟨g, hg⟩ : ∃ g, g = q % 16 := ⟨_, rfl⟩
        have hg1 : g < 2 ^ 4 := by rw [hg]; exact Nat.mod_lt _ (by decide)
        have s1 : (q : Int).tmod 16 = (g : Int) := by rw [Int.tmod_eq_emod_of_nonneg (by omega)]; omega
        have s2 : (q : Int) % 16 = (g : Int) := by omega
        have d1 : decide ((32 : Int) ≤ (i : Int)) = true := decide_eq_true (by omega)
        have HGL := Lib.hid (show g < i from by have h2 : (2 : Nat) ^ 4 = 16 := rfl; omega)
        have HPUT := Lib.hid (show putB l false [(g : Int)] = l.set g false from by
          show putB (if 0 ≤ (g : Int) ∧ (g : Int) < (l.length : Int) then l.set ((g : Int)).toNat false else l) false [] = _
          rw [if_pos (by rw [HL2.out]; have := HGL.out; omega)]
          simp [putB])
        have R3 := Lib.hid (fun (a : Int) (h0 : 0 ≤ a) (h1 : a ≤ 1) (r : Option Nat) (h : RunIs (l.set g false) ((4 : Nat) : Int) a (i : Int) r) => gap_run (o := 4) HL2.out hk32 (by omega) hg1 HA.out h0 h1 h)
        have HCN := Lib.hid (show ((bads (l.set g false) (l.set g false).length).length : Int) = (i : Int) - 1 from by
          have h1 := bads_drop (HA.out g HGL.out) i
          rw [if_pos HGL.out, bads_full i HA.out] at h1
          rw [List.length_set, HL2.out]
          omega)
        clear hg
        go_wp2_with fail
        refine (runs_run gS K l 4 0 (i : Int) wr HM2.out).mono ?_
        rintro e w4 ⟨r, rfl, hr, hb4⟩
        obtain rfl : r = some 0 := R1.out _ hr
        have HM4 := Lib.hid (HM2.out.fresh hb4)
        have HB4 := Lib.hid (HB2.out.trans (hb4.mono HB2.out.size))
        clear hr hb4
        unfold runV
        have A5 := Lib.hid (show Below w4.heap.size w4 (w4.alloc (.cells #[.int .i64 (g : Int)] 3)) from (Below.refl _ _).alloc (Nat.le_refl _) _)
        have I5 := Lib.hid (show Its (w4.alloc (.cells #[.int .i64 (g : Int)] 3)) (w4.alloc (.cells #[.int .i64 (g : Int)] 3)).heap.size (.slice (some ⟨w4.heap.size, 0, none⟩) 1 1) [(g : Int)] from Its.of_lit (xs := [(g : Int)]) (Blk.new w4 _ _) (by simp [maxLen]))
        have O5 := Lib.hid (show Off K (.slice (some ⟨w4.heap.size, 0, none⟩) 1 1) from fun b o s n c e _ hx => by
          injection e with e
          injection e with e
          injection e with e
          have := HM4.out.lt b hx
          omega)
        have M5 := Lib.hid (HM4.out.fresh A5.out)
        go_wp2_with fail
        refine (runs_drop gS K l _ [(g : Int)] _ M5.out I5.out O5.out).mono ?_
        rintro e w6 ⟨K6, rfl, hm6, hk6, ht6⟩
        rw [HPUT.out] at hm6
        have HM6 := Lib.hid hm6
        have HB5 := Lib.hid (HB4.out.trans (A5.out.mono HB4.out.size))
        have HB6 := Lib.hid (HB5.out.trans (ht6.below HK2.out HB5.out.size))
        clear hm6 hk6 ht6
        go_wp2_with fail
        refine (runs_run gS K6 _ 4 0 (i : Int) w6 HM6.out).mono ?_
        rintro e w7 ⟨r, rfl, hr, hb7⟩
        obtain rfl : r = some (2 ^ 4) := R3.out 0 (by omega) (by omega) r hr
        have HM7 := Lib.hid (HM6.out.fresh hb7)
        have HB7 := Lib.hid (HB6.out.trans (hb7.mono HB6.out.size))
        clear hr hb7
        unfold runV
        go_wp2_with fail
        refine (runs_run gS K6 _ 4 1 (i : Int) w7 HM7.out).mono ?_
        rintro e w8 ⟨r, rfl, hr, hb8⟩
        obtain rfl : r = some (2 ^ 4) := R3.out 1 (by omega) (by omega) r hr
        have HM8 := Lib.hid (HM7.out.fresh hb8)
        have HB8 := Lib.hid (HB7.out.trans (hb8.mono HB7.out.size))
        clear hr hb8
        unfold runV
        go_wp2_with fail
        refine (runAnswers_any _).mono ?_
        rintro e w9 ⟨rfl, hb9⟩
        have HM9 := Lib.hid (HM8.out.fresh hb9)
        have HB9 := Lib.hid (HB8.out.trans (hb9.mono HB8.out.size))
        clear hb9
        go_wp2_with fail
        refine (runs_count gS K6 _ w9 HM9.out).mono ?_
        rintro e w10 ⟨rfl, hb10⟩
        have HB10 := Lib.hid (HB9.out.trans (hb10.mono HB9.out.size))
        rw [HCN.out]
        clear hb10
        go_wp2
        go_ret
        exact ⟨by simp, HB10.out⟩
end Go.Proofs.Ytfnegbcpiejdaab
