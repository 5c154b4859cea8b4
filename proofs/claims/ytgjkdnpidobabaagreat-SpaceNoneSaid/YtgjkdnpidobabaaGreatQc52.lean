/-
  What a program that does nothing does not answer.
  What users see behind a fork (nothing of the program).
  SpaceFork: behind a fork what one stores in its own pages the other one does not see; in shared ones it does.
  Conditions: those that each line bears.
-/
import Derived.Test.YtgjkdnpidobabaaGreatQc51
import Derived.Lib.SlBytesConst
import Derived.Test.YtgjkdnpidobabaaGreatQc48
set_option linter.unusedSimpArgs false
set_option linter.unusedSectionVars false
set_option linter.unusedVariables false
namespace Go.Proofs.YtgjkdnpidobabaaGreat
open Go.RowKit
set_option linter.unusedVariables false

def eight : List Nat := [97, 98, 99, 100, 101, 102, 103, 104]
def arT : Ar := ⟨0, 2, true, 1, 0, 0⟩
set_option maxRecDepth 20000 in
set_option maxHeartbeats 1600000 in
theorem spaceAnswers_any (w : World) : Calls Tryz.prog 9 #[] w fun e w' => e = .returned (.bool true) ∧ Below w.heap.size w w' := by
  go_enter Tryz.func9, Tryz.ntmps9
  go_wp2_with fail
  refine (fresh_any 2 2 (by omega) (by omega) w).mono ?_
  intro e w1 hf
  obtain ⟨gS, gW, fl, rfl, ht1⟩ := SpT.begin hf
  have HT1 := Lib.hid ht1
  clear hf ht1
  go_wp2_with fail
  refine (t_of HT1.out fun K h => space_spawn gS K _ 63 64 0 w1 1 (by omega) (uw0_pr fl 1) h).mono ?_
  rintro e w2 ⟨rfl, ht⟩
  have HT2 := Lib.hid ht
  clear ht
  obtain ⟨W2, hW2⟩ : ∃ W2, W2 = spawnU (uw0 fl) 1 := ⟨_, rfl⟩
  rw [← hW2] at HT2
  have hp2 : W2.pr 1 = some ⟨[], []⟩ := by rw [hW2]; exact spawn_pr _ _
  have ho2 : ∀ q, W2.own 1 q = none := by intro q; rw [hW2]; rfl
  go_wp2_with fail
  refine (t_of HT2.out fun K h => space_map1 1 [] arT (by decide) (by unfold soundA arT; simp) hp2 h).mono ?_
  rintro e w3 ⟨rfl, ht⟩
  have HT3 := Lib.hid ht
  clear ht
  obtain ⟨W3, hW3⟩ : ∃ W3, W3 = arsU W2 1 [arT] := ⟨_, rfl⟩
  rw [← hW3] at HT3
  have h13 : One W3 1 arT := by rw [hW3]; exact ars_one hp2 arT
  have hp3 : W3.pr 1 ≠ none := by rw [hW3, ars_pr hp2]; simp
  have hin : ∀ x, 60 ≤ x → x < 128 → inAr arT x := by
    intro x h1 h2
    unfold inAr arT
    simp only
    omega
  have hcv0 := Lib.run_convert_bytes_const (P := Tryz.prog) w3 22 5 #[.int .u8 97, .int .u8 98, .int .u8 99, .int .u8 100, .int .u8 101, .int .u8 102, .int .u8 103, .int .u8 104] 8 8 Tryz.underlying22 Tryz.underlying5
  have HW := Lib.hid hW2
  have HP2 := Lib.hid hp2
  have HO2 := Lib.hid ho2
  have HW3 := Lib.hid hW3
  have H13 := Lib.hid h13
  have HP3 := Lib.hid hp3
  have HIN := Lib.hid hin
  clear hW2 hp2 ho2 hW3 h13 hp3 hin
  obtain ⟨w4, hw4⟩ : ∃ w4, w4 = w3.alloc (.cells #[.int .u8 97, .int .u8 98, .int .u8 99, .int .u8 100, .int .u8 101, .int .u8 102, .int .u8 103, .int .u8 104] 5 (8, 9)) := ⟨_, rfl⟩
  have hcv : (convert 22 22 (.slice (some ⟨w3.heap.size, 0, none⟩) 8 8)).run Tryz.prog (w3.alloc (.cells #[.int .u8 97, .int .u8 98, .int .u8 99, .int .u8 100, .int .u8 101, .int .u8 102, .int .u8 103, .int .u8 104] 5)) = .ok (.slice (some ⟨w3.heap.size, 0, none⟩) 8 8) w4 := by rw [hw4]; exact hcv0
  have hb4 : Below w3.heap.size w3 w4 := by rw [hw4]; exact (Below.refl _ _).alloc (Nat.le_refl _) _
  have hx4 : Bts w4 w4.heap.size (.slice (some ⟨w3.heap.size, 0, none⟩) 8 8) eight :=
    ⟨_, 8, 8, rfl, rfl, by simp [maxLen], ⟨by omega, fun h => by cases h⟩, by simp [maxLen], (fun j hj => by match j, hj with | 0, _ | 1, _ | 2, _ | 3, _ | 4, _ | 5, _ | 6, _ | 7, _ => decide), fun _ => ⟨w3.heap.size, 0, rfl, by rw [hw4, World.size_alloc]; omega, fun j hj => by
      rw [hw4]
      match j, hj with
      | 0, _ => exact World.cell?_alloc_mark w3 _ _ _ 0
      | 1, _ => exact World.cell?_alloc_mark w3 _ _ _ 1
      | 2, _ => exact World.cell?_alloc_mark w3 _ _ _ 2
      | 3, _ => exact World.cell?_alloc_mark w3 _ _ _ 3
      | 4, _ => exact World.cell?_alloc_mark w3 _ _ _ 4
      | 5, _ => exact World.cell?_alloc_mark w3 _ _ _ 5
      | 6, _ => exact World.cell?_alloc_mark w3 _ _ _ 6
      | 7, _ => exact World.cell?_alloc_mark w3 _ _ _ 7⟩⟩
  have HB4 := Lib.hid hb4
  have HX4 := Lib.hid hx4
  clear hb4 hx4 hw4 hcv0
  go_wp2_with fail
  refine (t_new HT3.out HB4.out HX4.out (fun bk o s n c e => by injection e with e1; injection e1 with e1; injection e1 with e1; rw [← e1]; exact Nat.le_refl _) fun K h hb ho => space_store gS K _ 54 60 1 w4 1 60 _ eight _ H13.out rfl hb ho (by decide) (by decide) (fun j hj => HIN.out _ (by omega) (by have : eight.length = 8 := rfl; omega)) h).mono ?_
  rintro e w5 ⟨rfl, ht⟩
  have HT5 := Lib.hid ht
  clear ht hcv
  obtain ⟨s1, s2, s3, s4, s5, s6, s7⟩ := storeU_own (n := 1) (a := arT) (by unfold arT; decide) eight W3 60 H13.out (fun j hj => HIN.out _ (by omega) (by have : eight.length = 8 := rfl; omega))
  obtain ⟨W5, hW5⟩ : ∃ W5, W5 = storeU W3 1 60 eight := ⟨_, rfl⟩
  rw [← hW5] at HT5 s1 s7
  have h15 : One W5 1 arT := H13.out.congr (by rw [s1])
  have hp5 : W5.pr 1 ≠ none := by rw [s1]; exact HP3.out
  have hby : bytesU W5 1 62 4 = [99, 100, 101, 102] := by
    refine bytesU_eq (b := [99, 100, 101, 102]) fun j hj => ?_
    rw [s7, if_pos ⟨rfl, by omega, by have : eight.length = 8 := rfl; simp only [List.length_cons, List.length_nil] at hj; omega⟩]
    simp only [List.length_cons, List.length_nil] at hj
    match j, hj with
    | 0, _ => rfl
    | 1, _ => rfl
    | 2, _ => rfl
    | 3, _ => rfl
  have H15 := Lib.hid h15
  have HP5 := Lib.hid hp5
  have HBY := Lib.hid hby
  clear s1 s2 s3 s4 s5 s6 s7 hW5 h15 hp5 hby
  go_wp2_with fail
  refine (t_load HT5.out fun K h => space_load gS K _ 48 56 7 w5 1 62 4 HP5.out (by omega) (by omega) (mayAll_one H15.out (fun h => by cases h) (fun j hj => HIN.out _ (by omega) (by omega))) h).mono ?_
  rintro e w6 ⟨v6, rfl, ht⟩
  rw [HBY.out] at ht
  obtain ⟨A6, n6, c6, rfl, hn6, -, -, -, -, hx6⟩ := ht.bts (List.mem_cons_self ..)
  have hn6 : 4 = n6 := hn6
  subst hn6
  obtain ⟨bk, off, rfl, -, hc6⟩ := hx6 (by omega)
  have hst : (convert 22 9 (.slice (some ⟨bk, off, none⟩) 4 c6)).run Tryz.prog w6 = .ok (.string ⟨#[99, 100, 101, 102]⟩) w6 :=
    run_convert_bytes_back w6 22 9 5 ⟨bk, off, none⟩ c6 [99, 100, 101, 102] Tryz.underlying22 Tryz.underlying5 Tryz.underlying9 (fun j hj => by
      match j, hj with
      | 0, _ => exact hc6 0 (by omega)
      | 1, _ => exact hc6 1 (by omega)
      | 2, _ => exact hc6 2 (by omega)
      | 3, _ => exact hc6 3 (by omega))
  have HB6 := Lib.hid ht.below
  clear ht hx6 hc6
  go_wp2
  go_ret
  exact ⟨rfl, HB6.out⟩
end Go.Proofs.YtgjkdnpidobabaaGreat

namespace Go.Proofs.YtgjkdnpidobabaaGreat
open Go.RowKit
set_option linter.unusedVariables false

theorem fork_page {W : UW} {n m k q : Nat} (h : k ≠ m) : (forkU W n m).page k q = W.page k q := by
  unfold UW.page
  have e1 : (forkU W n m).own k q = W.own k q := if_neg h
  have e2 : (forkU W n m).area k q = W.area k q := UW.area_congr (upd_other _ _ _ h) q
  rw [e1, e2]
  rfl
theorem fork_ne {W : UW} {n m k : Nat} (h : k ≠ m) : (forkU W n m).pr k = W.pr k := upd_other _ _ _ h
theorem spawn_ne {W : UW} {n k : Nat} (h : k ≠ n) : (spawnU W n).pr k = W.pr k := upd_other _ _ _ h
theorem One.pr_ne {W : UW} {n : Nat} {a : Ar} (h : One W n a) : W.pr n ≠ none := by
  obtain ⟨p, hp, _⟩ := h
  rw [hp]
  simp
theorem fork_pr {W : UW} {n m : Nat} {p : Prc} (h : W.pr n = some p) : (forkU W n m).pr m = some ⟨p.ars, []⟩ := by
  unfold forkU
  simp only [h, Option.map_some]
  exact upd_same _ _ _
theorem forked {W3 : UW} {a : Ar} {x : Nat} {la lb : List Nat} (h : One W3 0 a) (h0 : 0 ≤ a.fr) (ho : ∀ q, W3.own 0 q = none) (hl : la.length = lb.length) (hi : ∀ j, j < la.length → inAr a (x + j)) :
    One (storeU W3 0 x la) 0 a ∧ One (forkU (storeU W3 0 x la) 0 5) 0 a ∧ One (forkU (storeU W3 0 x la) 0 5) 5 a ∧ One (storeU (forkU (storeU W3 0 x la) 0 5) 5 x lb) 0 a ∧ One (storeU (forkU (storeU W3 0 x la) 0 5) 5 x lb) 5 a ∧
      bytesU (storeU (forkU (storeU W3 0 x la) 0 5) 5 x lb) 0 x la.length = (if a.kd = 2 then lb else la) ∧ bytesU (storeU (forkU (storeU W3 0 x la) 0 5) 5 x lb) 5 x la.length = lb := by
  obtain ⟨s1, s2⟩ := stored h h0 (fun _ => ho) hi
  obtain ⟨W4, hW4⟩ : ∃ W4, W4 = storeU W3 0 x la := ⟨_, rfl⟩
  have o4 : a.kd = 2 → W4.own = W3.own := fun hk => by rw [hW4]; exact (storeU_shared hk h0 la W3 x h hi).2.1
  rw [← hW4] at s1 s2 ⊢
  have h4 : One W4 0 a := h.congr (by rw [s1])
  obtain ⟨p, hp, ha⟩ := id h4
  obtain ⟨W5, hW5⟩ : ∃ W5, W5 = forkU W4 0 5 := ⟨_, rfl⟩
  have p5 : ∀ q, W5.page 0 q = W4.page 0 q := fun q => by rw [hW5]; exact fork_page (by omega : (0 : Nat) ≠ 5)
  have h50 : One W5 0 a := by rw [hW5]; exact ⟨p, (fork_ne (by omega : (0 : Nat) ≠ 5)).trans hp, ha⟩
  have h55 : One W5 5 a := by rw [hW5]; exact ⟨_, fork_pr hp, ha⟩
  have o50 : ∀ q, W5.own 0 q = W4.own 0 q := fun q => by rw [hW5]; show (if (0 : Nat) = 5 then W4.own 0 q else W4.own 0 q) = _; rw [if_neg (by omega)]
  have o55 : ∀ q, W5.own 5 q = W4.own 0 q := fun q => by rw [hW5]; show (if (5 : Nat) = 5 then W4.own 0 q else W4.own 5 q) = _; rw [if_pos rfl]
  rw [← hW5]
  have hi2 : ∀ j, j < lb.length → inAr a (x + j) := fun j hj => hi j (by omega)
  obtain ⟨t1, t2⟩ := stored h55 h0 (fun hk q => by rw [o55, o4 hk]; exact ho q) hi2
  have k0 : One (storeU W5 5 x lb) 0 a := h50.congr (by rw [t1])
  refine ⟨h4, h50, h55, k0, h55.congr (by rw [t1]), ?_, by rw [hl]; exact t2⟩
  by_cases hk : a.kd = 2
  · rw [if_pos hk, hl]
    refine bytesU_eq fun j hj => ?_
    obtain ⟨u1, u2, u3⟩ := storeU_shared hk h0 lb W5 x h55 hi2
    have hij := hi2 j hj
    have h1 := (hi2 0 (by omega)).1
    rw [Nat.add_zero] at h1
    have e : FA a (x + j) = FA a x + j := by unfold FA; omega
    rw [byte_file (c := a) (by rw [u2, o50, o4 hk]; exact ho _) (k0.area hij.1 hij.2) (by omega) h0 hij.1, u3, e, if_pos ⟨by omega, by omega⟩, Nat.add_sub_cancel_left]
  · rw [if_neg hk]
    obtain ⟨u1, u2, u3, u4, u5, u6, u7⟩ := storeU_own hk lb W5 x h55 hi2
    have e : bytesU (storeU W5 5 x lb) 0 x la.length = bytesU W4 0 x la.length := by
      unfold bytesU
      refine List.map_congr_left fun j _ => ?_
      rw [u7, if_neg (by omega)]
      unfold UW.byte
      rw [p5]
    rw [e, s2]
end Go.Proofs.YtgjkdnpidobabaaGreat

namespace Go.Proofs.YtgjkdnpidobabaaGreat
open Go.RowKit
set_option linter.unusedVariables false

set_option maxRecDepth 20000 in
set_option maxHeartbeats 4000000 in
theorem fork_answers (A0 A1 : Option Addr) (l0 c0 l1 c1 pb gb : Nat) (w : World) (h : l0 = 0 ∨ 60 < l0 ∨ l1 = 0 ∨ 60 < l1 ∨ l0 ≠ l1) :
    Calls Tryz.prog 3 #[.slice A0 l0 c0, .slice A1 l1 c1, .int .u8 (pb : Int), .int .u8 (gb : Int)] w fun e w' => e = .returned (.bool true) ∧ Below w.heap.size w w' := by
  by_cases a0 : l0 = 0
  · subst a0
    go_enter Tryz.func3, Tryz.ntmps3
    go_wp2_with fail
    refine (spaceAnswers_any w).mono ?_
    rintro e w1 ⟨rfl, hb⟩
    go_wp2
    go_ret
    exact ⟨rfl, hb⟩
  have t0 : ((l0 : Int) == 0) = false := by simp; omega
  by_cases a1 : 60 < l0
  · have t1 : decide ((60 : Int) < (l0 : Int)) = true := decide_eq_true (by omega)
    go_enter Tryz.func3, Tryz.ntmps3
    go_wp2_with fail
    refine (spaceAnswers_any w).mono ?_
    rintro e w1 ⟨rfl, hb⟩
    go_wp2
    go_ret
    exact ⟨rfl, hb⟩
  have t1 : decide ((60 : Int) < (l0 : Int)) = false := decide_eq_false (by omega)
  by_cases b0 : l1 = 0
  · subst b0
    go_enter Tryz.func3, Tryz.ntmps3
    go_wp2_with fail
    refine (spaceAnswers_any w).mono ?_
    rintro e w1 ⟨rfl, hb⟩
    go_wp2
    go_ret
    exact ⟨rfl, hb⟩
  have t2 : ((l1 : Int) == 0) = false := by simp; omega
  by_cases b1 : 60 < l1
  · have t3 : decide ((60 : Int) < (l1 : Int)) = true := decide_eq_true (by omega)
    go_enter Tryz.func3, Tryz.ntmps3
    go_wp2_with fail
    refine (spaceAnswers_any w).mono ?_
    rintro e w1 ⟨rfl, hb⟩
    go_wp2
    go_ret
    exact ⟨rfl, hb⟩
  have t3 : decide ((60 : Int) < (l1 : Int)) = false := decide_eq_false (by omega)
  have t4 : ((l0 : Int) != (l1 : Int)) = true := by rw [bne_iff_ne]; omega
  go_enter Tryz.func3, Tryz.ntmps3
  go_wp2_with fail
  refine (spaceAnswers_any w).mono ?_
  rintro e w1 ⟨rfl, hb⟩
  go_wp2
  go_ret
  exact ⟨rfl, hb⟩
set_option maxRecDepth 20000 in
set_option maxHeartbeats 4000000 in
theorem spaceFork_any (v0 v1 : Value) (xs ys : List Nat) (pb gb : Nat) (w : World) (hv : Bts w w.heap.size v0 xs) (hv1 : Bts w w.heap.size v1 ys) (hp : pb < 256) (hg : gb < 256) :
    Calls Tryz.prog 3 #[v0, v1, .int .u8 (pb : Int), .int .u8 (gb : Int)] w fun e w' => e = .returned (.bool true) ∧ Below w.heap.size w w' := by
  have HV := Lib.hid hv
  have HU := Lib.hid hv1
  obtain ⟨A0, l0, c0, rfl, e0, -⟩ := hv
  obtain ⟨A1, l1, c1, rfl, e1, -⟩ := hv1
  have E0 := Lib.hid e0
  have E1 := Lib.hid e1
  clear e0 e1
  by_cases c : l0 = 0 ∨ 60 < l0 ∨ l1 = 0 ∨ 60 < l1 ∨ l0 ≠ l1
  · exact fork_answers A0 A1 l0 c0 l1 c1 pb gb w c
  · obtain rfl : l0 = l1 := by omega
    have t0 : ((l0 : Int) == 0) = false := by simp; omega
    have t1 : decide ((60 : Int) < (l0 : Int)) = false := decide_eq_false (by omega)
    have t4 : ((l0 : Int) != (l0 : Int)) = false := by simp
    obtain ⟨k, hk⟩ : ∃ k, k = pb % 64 := ⟨_, rfl⟩
    obtain ⟨g, hgk⟩ : ∃ g, g = gb % 3 := ⟨_, rfl⟩
    obtain ⟨d, hd⟩ : ∃ d, d = g + 1 := ⟨_, rfl⟩
    have hk96 : k < 64 := by omega
    have hg3 : g < 3 := by omega
    have r1 : (pb : Int).tmod 64 = (k : Int) := by rw [Int.tmod_eq_emod_of_nonneg (by omega)]; omega
    have r1' : (pb : Int) % 64 = (k : Int) := by omega
    have r2 : (gb : Int).tmod 3 = (g : Int) := by rw [Int.tmod_eq_emod_of_nonneg (by omega)]; omega
    have r2' : (gb : Int) % 3 = (g : Int) := by omega
    have r3 : (1 : Int) + (g : Int) = (d : Int) := by omega
    obtain ⟨q, hq⟩ : ∃ q, q = 192 + k := ⟨_, rfl⟩
    have r5 : (192 : Int) + (k : Int) = (q : Int) := by omega
    obtain ⟨a, ha⟩ : ∃ a : Ar, a = ⟨3, 3, true, (d : Int), 0, 0⟩ := ⟨_, rfl⟩
    have hsa : soundA a := by
      rw [ha]
      unfold soundA
      simp
      omega
    have hwa : WAr' a := by
      rw [ha]
      exact ⟨rfl, rfl, wf64 (by simp only; omega) (by simp only; omega), rfl, rfl⟩
    have hij : ∀ j, j < l0 → inAr a (q + j) := by
      intro j hj
      rw [ha]
      unfold inAr
      simp only
      omega
    have HP := Lib.hid (show k < 64 ∧ q = 192 + k ∧ l0 ≠ 0 ∧ l0 ≤ 60 from ⟨hk96, hq, by omega, by omega⟩)
    have HD := Lib.hid (show (d : Int) = 2 ↔ a.kd = 2 from by rw [ha])
    have HSA := Lib.hid hsa
    have HWA := Lib.hid hwa
    have HIN := Lib.hid hij
    have HA := Lib.hid ha
    clear hp hg hk hgk hd hq ha hsa hwa hij
    go_enter Tryz.func3, Tryz.ntmps3
    go_wp2_with fail
    refine (fresh_any 4 4 (by omega) (by omega) w).mono ?_
    intro e w1 hf
    obtain ⟨gS, gW, fl, rfl, ht1⟩ := SpT.begin hf
    have HT1 := Lib.hid (ht1.made 29 (arL a).toArray)
    have HAA := Lib.hid (show (arL a).toArray = #[.int .i64 3, .int .i64 3, .bool true, .int .i64 (d : Int), .int .i64 0, .int .i64 0] by rw [HA.out]; rfl)
    rw [HAA.out] at HT1
    clear hf ht1
    go_wp2_with fail
    refine (t_of HT1.out fun K h => space_spawn gS K _ 127 128 0 _ 0 (by omega) (uw0_pr fl 0) h).mono ?_
    rintro e w2 ⟨rfl, ht⟩
    obtain ⟨W2, hW2⟩ : ∃ W2, W2 = spawnU (uw0 fl) 0 := ⟨_, rfl⟩
    rw [← hW2] at ht
    have HT2 := Lib.hid ht
    have HQ2 := Lib.hid (show W2.pr 0 = some ⟨[], []⟩ from by rw [hW2]; exact spawn_pr _ _)
    have HN2 := Lib.hid (show W2.pr 5 = none from by rw [hW2]; exact spawn_ne (by omega : (5 : Nat) ≠ 0))
    have HO2 := Lib.hid (show ∀ q, W2.own 0 q = none from by intro q; rw [hW2]; rfl)
    have hb2 := ht.blk (List.mem_cons_self ..)
    have c0 := hb2.cell 0
    have c1 := hb2.cell 1
    have c2 := hb2.cell 2
    have c3 := hb2.cell 3
    have c4 := hb2.cell 4
    have c5 := hb2.cell 5
    simp only [List.getElem?_toArray] at c0 c1 c2 c3 c4 c5
    clear ht hW2 hb2
    go_wp2_with fail
    rw [← HAA.out]
    refine (t_of HT2.out fun K h => space_map1 0 [] a HWA.out HSA.out HQ2.out h).mono ?_
    rintro e w3 ⟨rfl, ht⟩
    obtain ⟨W3, hW3⟩ : ∃ W3, W3 = arsU W2 0 [a] := ⟨_, rfl⟩
    rw [← hW3] at ht
    have HT3 := Lib.hid ht
    have H13 := Lib.hid (show One W3 0 a from by rw [hW3]; exact ars_one HQ2.out a)
    have HN3 := Lib.hid (show W3.pr 5 = none from by rw [hW3, ars_ne _ _ (by omega)]; exact HN2.out)
    have HO3 := Lib.hid (show ∀ q, W3.own 0 q = none from by rw [hW3]; exact HO2.out)
    clear ht hW3 c0 c1 c2 c3 c4 c5
    have hxi : ∀ j, j < xs.length → inAr a (q + j) := fun j hj => HIN.out j (by rw [E0.out] at hj; exact hj)
    obtain ⟨s1, s2, s3, s4, s5, s6, s7⟩ := forked (la := xs) (lb := ys) (x := q) H13.out (by rw [HA.out]; show (0 : Int) ≤ 3; omega) HO3.out (by rw [E0.out, E1.out]) hxi
    rw [E0.out] at s6 s7
    obtain ⟨hpr, -⟩ := stored H13.out (by rw [HA.out]; show (0 : Int) ≤ 3; omega) (fun _ => HO3.out) hxi
    obtain ⟨W4, hW4⟩ : ∃ W4, W4 = storeU W3 0 q xs := ⟨_, rfl⟩
    rw [← hW4] at s1 s2 s3 s4 s5 s6 s7 hpr
    obtain ⟨W5, hW5⟩ : ∃ W5, W5 = forkU W4 0 5 := ⟨_, rfl⟩
    rw [← hW5] at s2 s3 s4 s5 s6 s7
    obtain ⟨W6, hW6⟩ : ∃ W6, W6 = storeU W5 5 q ys := ⟨_, rfl⟩
    rw [← hW6] at s4 s5 s6 s7
    have S1 := Lib.hid s1
    have S3 := Lib.hid s3
    have S4 := Lib.hid s4
    have S5 := Lib.hid s5
    have S6 := Lib.hid s6
    have S7 := Lib.hid s7
    have HN4 := Lib.hid (show W4.pr 5 = none from by rw [hpr]; exact HN3.out)
    have HW4 := Lib.hid hW4
    have HW5 := Lib.hid hW5
    have HW6 := Lib.hid hW6
    clear s1 s2 s3 s4 s5 s6 s7 hpr hW4 hW5 hW6 hxi
    go_wp2_with fail
    refine (t_in HT3.out HV.out fun K h hb ho => space_store gS K _ 118 124 1 w3 0 q _ xs _ H13.out (by rw [HA.out]) hb ho (by have := HP.out; rw [E0.out]; omega) (by have := HP.out; rw [E0.out]; omega) (by rw [E0.out]; exact HIN.out) h).mono ?_
    rintro e w4 ⟨rfl, ht⟩
    rw [← HW4.out] at ht
    have HT4 := Lib.hid ht
    clear ht
    go_wp2_with fail
    refine (t_of HT4.out fun K h => space_fork gS K _ 111 124 7 w4 0 5 S1.out.pr_ne (by omega) HN4.out h).mono ?_
    rintro e w5 ⟨rfl, ht⟩
    rw [← HW5.out] at ht
    have HT5 := Lib.hid ht
    clear ht
    go_wp2_with fail
    refine (t_in HT5.out HU.out fun K h hb ho => space_store gS K _ 105 120 14 w5 5 q _ ys _ S3.out (by rw [HA.out]) hb ho (by have := HP.out; rw [E1.out]; omega) (by have := HP.out; rw [E1.out]; omega) (by rw [E1.out]; exact HIN.out) h).mono ?_
    rintro e w6 ⟨rfl, ht⟩
    rw [← HW6.out] at ht
    have HT6 := Lib.hid ht
    clear ht
    go_wp2_with fail
    refine (t_load HT6.out fun K h => space_load gS K _ 99 116 20 w6 0 q l0 S4.out.pr_ne (by have := HP.out; omega) (by have := HP.out; omega) (mayAll_one S4.out (fun h => by cases h) HIN.out) h).mono ?_
    rintro e w7 ⟨v7, rfl, ht⟩
    rw [S6.out] at ht
    have HT7 := Lib.hid ht
    clear ht
    go_wp2_with fail
    refine (t_load HT7.out fun K h => space_load gS K _ 93 112 26 w7 5 q l0 S5.out.pr_ne (by have := HP.out; omega) (by have := HP.out; omega) (mayAll_one S5.out (fun h => by cases h) HIN.out) h).mono ?_
    rintro e w8 ⟨v8, rfl, ht⟩
    rw [S7.out] at ht
    have HT8 := Lib.hid ht
    have hb2 := ht.blk (List.mem_cons_self ..)
    have c3 := hb2.cell 3
    simp only [List.getElem?_toArray] at c3
    have hx8 := ht.bts (List.mem_cons_self ..)
    have hx7 := ht.bts (List.mem_cons_of_mem _ (List.mem_cons_self ..))
    obtain ⟨A8, n8, c8, rfl, -⟩ := id hx8
    obtain ⟨A7, n7, c7, rfl, -⟩ := id hx7
    clear ht hb2 hx7 hx8
    by_cases k2 : d = 2
    · obtain rfl := k2
      have t5 : (((2 : Nat) : Int) == 2) = true := rfl
      rw [if_pos (HD.out.1 rfl)] at HT8
      go_wp2_with fail
      refine (spaceAnswers_any w8).mono ?_
      rintro e w9 ⟨rfl, hb⟩
      have HT9 := Lib.hid (HT8.out.fresh hb)
      have HB9 := Lib.hid HT9.out.below
      clear hb
      go_wp2_with fail
      refine (same_any _ _ _ _ _ _ _ (HT9.out.bts (List.mem_cons_of_mem _ (List.mem_cons_self ..))) (HU.out.below HB9.out)).mono ?_
      rintro e w10 ⟨rfl, m, rfl⟩
      rw [decide_eq_true rfl]
      go_wp2_with fail
      refine (same_any _ _ _ _ _ _ _ ((HT9.out.bts (List.mem_cons_self ..)).drewN (n := m)) ((HU.out.below HB9.out).drewN (n := m))).mono ?_
      rintro e w11 ⟨rfl, m2, rfl⟩
      rw [decide_eq_true rfl]
      have HB11 := Lib.hid (below_drewN HB9.out (m + m2))
      go_wp2
      go_ret
      exact ⟨rfl, HB11.out⟩
    · have t5 : ((d : Int) == 2) = false := by simp; omega
      rw [if_neg (fun h => k2 (by have := HD.out.2 h; omega))] at HT8
      go_wp2_with fail
      refine (spaceAnswers_any w8).mono ?_
      rintro e w9 ⟨rfl, hb⟩
      have HT9 := Lib.hid (HT8.out.fresh hb)
      have HB9 := Lib.hid HT9.out.below
      clear hb
      go_wp2_with fail
      refine (same_any _ _ _ _ _ _ _ (HT9.out.bts (List.mem_cons_of_mem _ (List.mem_cons_self ..))) (HV.out.below HB9.out)).mono ?_
      rintro e w10 ⟨rfl, m, rfl⟩
      rw [decide_eq_true rfl]
      go_wp2_with fail
      refine (same_any _ _ _ _ _ _ _ ((HT9.out.bts (List.mem_cons_self ..)).drewN (n := m)) ((HU.out.below HB9.out).drewN (n := m))).mono ?_
      rintro e w11 ⟨rfl, m2, rfl⟩
      rw [decide_eq_true rfl]
      have HB11 := Lib.hid (below_drewN HB9.out (m + m2))
      go_wp2
      go_ret
      exact ⟨rfl, HB11.out⟩
end Go.Proofs.YtgjkdnpidobabaaGreat

