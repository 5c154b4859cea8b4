/-
  What a program that does nothing does not answer.
  SpaceDenied: what may not be written is not, and is read as ever; what is in no area is neither.
  Conditions: those that each line bears.
-/
import Derived.Test.YtgjkdnpidobabaaGreatQa50
import Derived.Lib.SlBytesConst
set_option linter.unusedSimpArgs false
set_option linter.unusedSectionVars false
set_option linter.unusedVariables false
namespace Go.Proofs.YtgjkdnpidobabaaGreat
open Go.RowKit
set_option linter.unusedVariables false

def eight : List Nat := [97, 98, 99, 100, 101, 102, 103, 104]
def arT : Ar := ⟨0, 2, true, 1, 0, 0⟩
set_option maxRecDepth 20000 in
set_option maxHeartbeats 1600000 in
theorem spaceAnswers_any (w : World) : Calls Tryz.prog 9 #[] w fun e w' => e = .returned (.bool true) ∧ Below w.heap.size w w' := by
  go_enter Tryz.func9, Tryz.ntmps9
  go_wp2_with fail
  refine (fresh_any 2 2 (by omega) (by omega) w).mono ?_
  intro e w1 hf
  obtain ⟨gS, gW, fl, rfl, ht1⟩ := SpT.begin hf
  have HT1 := Lib.hid ht1
  clear hf ht1
  go_wp2_with fail
  refine (t_of HT1.out fun K h => space_spawn gS K _ 63 64 0 w1 1 (by omega) (uw0_pr fl 1) h).mono ?_
  rintro e w2 ⟨rfl, ht⟩
  have HT2 := Lib.hid ht
  clear ht
  obtain ⟨W2, hW2⟩ : ∃ W2, W2 = spawnU (uw0 fl) 1 := ⟨_, rfl⟩
  rw [← hW2] at HT2
  have hp2 : W2.pr 1 = some ⟨[], []⟩ := by rw [hW2]; exact spawn_pr _ _
  have ho2 : ∀ q, W2.own 1 q = none := by intro q; rw [hW2]; rfl
  go_wp2_with fail
  refine (t_of HT2.out fun K h => space_map1 1 [] arT (by decide) (by unfold soundA arT; simp) hp2 h).mono ?_
  rintro e w3 ⟨rfl, ht⟩
  have HT3 := Lib.hid ht
  clear ht
  obtain ⟨W3, hW3⟩ : ∃ W3, W3 = arsU W2 1 [arT] := ⟨_, rfl⟩
  rw [← hW3] at HT3
  have h13 : One W3 1 arT := by rw [hW3]; exact ars_one hp2 arT
  have hp3 : W3.pr 1 ≠ none := by rw [hW3, ars_pr hp2]; simp
  have hin : ∀ x, 60 ≤ x → x < 128 → inAr arT x := by
    intro x h1 h2
    unfold inAr arT
    simp only
    omega
  have hcv0 := Lib.run_convert_bytes_const (P := Tryz.prog) w3 22 5 #[.int .u8 97, .int .u8 98, .int .u8 99, .int .u8 100, .int .u8 101, .int .u8 102, .int .u8 103, .int .u8 104] 8 8 Tryz.underlying22 Tryz.underlying5
  have HW := Lib.hid hW2
  have HP2 := Lib.hid hp2
  have HO2 := Lib.hid ho2
  have HW3 := Lib.hid hW3
  have H13 := Lib.hid h13
  have HP3 := Lib.hid hp3
  have HIN := Lib.hid hin
  clear hW2 hp2 ho2 hW3 h13 hp3 hin
  obtain ⟨w4, hw4⟩ : ∃ w4, w4 = w3.alloc (.cells #[.int .u8 97, .int .u8 98, .int .u8 99, .int .u8 100, .int .u8 101, .int .u8 102, .int .u8 103, .int .u8 104] 5 (8, 9)) := ⟨_, rfl⟩
  have hcv : (convert 22 22 (.slice (some ⟨w3.heap.size, 0, none⟩) 8 8)).run Tryz.prog (w3.alloc (.cells #[.int .u8 97, .int .u8 98, .int .u8 99, .int .u8 100, .int .u8 101, .int .u8 102, .int .u8 103, .int .u8 104] 5)) = .ok (.slice (some ⟨w3.heap.size, 0, none⟩) 8 8) w4 := by rw [hw4]; exact hcv0
  have hb4 : Below w3.heap.size w3 w4 := by rw [hw4]; exact (Below.refl _ _).alloc (Nat.le_refl _) _
  have hx4 : Bts w4 w4.heap.size (.slice (some ⟨w3.heap.size, 0, none⟩) 8 8) eight :=
    ⟨_, 8, 8, rfl, rfl, by simp [maxLen], ⟨by omega, fun h => by cases h⟩, by simp [maxLen], (fun j hj => by match j, hj with | 0, _ | 1, _ | 2, _ | 3, _ | 4, _ | 5, _ | 6, _ | 7, _ => decide), fun _ => ⟨w3.heap.size, 0, rfl, by rw [hw4, World.size_alloc]; omega, fun j hj => by
      rw [hw4]
      match j, hj with
      | 0, _ => exact World.cell?_alloc_mark w3 _ _ _ 0
      | 1, _ => exact World.cell?_alloc_mark w3 _ _ _ 1
      | 2, _ => exact World.cell?_alloc_mark w3 _ _ _ 2
      | 3, _ => exact World.cell?_alloc_mark w3 _ _ _ 3
      | 4, _ => exact World.cell?_alloc_mark w3 _ _ _ 4
      | 5, _ => exact World.cell?_alloc_mark w3 _ _ _ 5
      | 6, _ => exact World.cell?_alloc_mark w3 _ _ _ 6
      | 7, _ => exact World.cell?_alloc_mark w3 _ _ _ 7⟩⟩
  have HB4 := Lib.hid hb4
  have HX4 := Lib.hid hx4
  clear hb4 hx4 hw4 hcv0
  go_wp2_with fail
  refine (t_new HT3.out HB4.out HX4.out (fun bk o s n c e => by injection e with e1; injection e1 with e1; injection e1 with e1; rw [← e1]; exact Nat.le_refl _) fun K h hb ho => space_store gS K _ 54 60 1 w4 1 60 _ eight _ H13.out rfl hb ho (by decide) (by decide) (fun j hj => HIN.out _ (by omega) (by have : eight.length = 8 := rfl; omega)) h).mono ?_
  rintro e w5 ⟨rfl, ht⟩
  have HT5 := Lib.hid ht
  clear ht hcv
  obtain ⟨s1, s2, s3, s4, s5, s6, s7⟩ := storeU_own (n := 1) (a := arT) (by unfold arT; decide) eight W3 60 H13.out (fun j hj => HIN.out _ (by omega) (by have : eight.length = 8 := rfl; omega))
  obtain ⟨W5, hW5⟩ : ∃ W5, W5 = storeU W3 1 60 eight := ⟨_, rfl⟩
  rw [← hW5] at HT5 s1 s7
  have h15 : One W5 1 arT := H13.out.congr (by rw [s1])
  have hp5 : W5.pr 1 ≠ none := by rw [s1]; exact HP3.out
  have hby : bytesU W5 1 62 4 = [99, 100, 101, 102] := by
    refine bytesU_eq (b := [99, 100, 101, 102]) fun j hj => ?_
    rw [s7, if_pos ⟨rfl, by omega, by have : eight.length = 8 := rfl; simp only [List.length_cons, List.length_nil] at hj; omega⟩]
    simp only [List.length_cons, List.length_nil] at hj
    match j, hj with
    | 0, _ => rfl
    | 1, _ => rfl
    | 2, _ => rfl
    | 3, _ => rfl
  have H15 := Lib.hid h15
  have HP5 := Lib.hid hp5
  have HBY := Lib.hid hby
  clear s1 s2 s3 s4 s5 s6 s7 hW5 h15 hp5 hby
  go_wp2_with fail
  refine (t_load HT5.out fun K h => space_load gS K _ 48 56 7 w5 1 62 4 HP5.out (by omega) (by omega) (mayAll_one H15.out (fun h => by cases h) (fun j hj => HIN.out _ (by omega) (by omega))) h).mono ?_
  rintro e w6 ⟨v6, rfl, ht⟩
  rw [HBY.out] at ht
  obtain ⟨A6, n6, c6, rfl, hn6, -, -, -, -, hx6⟩ := ht.bts (List.mem_cons_self ..)
  have hn6 : 4 = n6 := hn6
  subst hn6
  obtain ⟨bk, off, rfl, -, hc6⟩ := hx6 (by omega)
  have hst : (convert 22 9 (.slice (some ⟨bk, off, none⟩) 4 c6)).run Tryz.prog w6 = .ok (.string ⟨#[99, 100, 101, 102]⟩) w6 :=
    run_convert_bytes_back w6 22 9 5 ⟨bk, off, none⟩ c6 [99, 100, 101, 102] Tryz.underlying22 Tryz.underlying5 Tryz.underlying9 (fun j hj => by
      match j, hj with
      | 0, _ => exact hc6 0 (by omega)
      | 1, _ => exact hc6 1 (by omega)
      | 2, _ => exact hc6 2 (by omega)
      | 3, _ => exact hc6 3 (by omega))
  have HB6 := Lib.hid ht.below
  clear ht hx6 hc6
  go_wp2
  go_ret
  exact ⟨rfl, HB6.out⟩
end Go.Proofs.YtgjkdnpidobabaaGreat

namespace Go.Proofs.YtgjkdnpidobabaaGreat
open Go.RowKit
set_option linter.unusedVariables false

set_option maxRecDepth 20000 in
set_option maxHeartbeats 4000000 in
theorem spaceDenied_any (v0 : Value) (xs : List Nat) (pb gb : Nat) (w : World) (hv : Bts w w.heap.size v0 xs) (hp : pb < 256) (hg : gb < 256) :
    Calls Tryz.prog 5 #[v0, .int .u8 (pb : Int), .int .u8 (gb : Int)] w fun e w' => e = .returned (.bool true) ∧ Below w.heap.size w w' := by
  have HV := Lib.hid hv
  obtain ⟨A0, l0, c0, rfl, e0, -⟩ := hv
  have E0 := Lib.hid e0
  clear e0
  by_cases c : l0 = 0 ∨ 32 < l0
  · have ans : ∀ (hh : (l0 = 0) ∨ (¬ l0 = 0 ∧ 32 < l0)), Calls Tryz.prog 5 #[.slice A0 l0 c0, .int .u8 (pb : Int), .int .u8 (gb : Int)] w fun e w' => e = .returned (.bool true) ∧ Below w.heap.size w w' := by
      rintro (rfl | ⟨h1, h2⟩)
      · go_enter Tryz.func5, Tryz.ntmps5
        go_wp2_with fail
        refine (spaceAnswers_any w).mono ?_
        rintro e w1 ⟨rfl, hb⟩
        go_wp2
        go_ret
        exact ⟨rfl, hb⟩
      · have t0 : ((l0 : Int) == 0) = false := by simp; omega
        have t1 : decide ((32 : Int) < (l0 : Int)) = true := decide_eq_true (by omega)
        go_enter Tryz.func5, Tryz.ntmps5
        go_wp2_with fail
        refine (spaceAnswers_any w).mono ?_
        rintro e w1 ⟨rfl, hb⟩
        go_wp2
        go_ret
        exact ⟨rfl, hb⟩
    exact ans (by omega)
  · have t0 : ((l0 : Int) == 0) = false := by simp; omega
    have t1 : decide ((32 : Int) < (l0 : Int)) = false := decide_eq_false (by omega)
    obtain ⟨k, hk⟩ : ∃ k, k = pb % 96 := ⟨_, rfl⟩
    obtain ⟨g, hgk⟩ : ∃ g, g = gb % 3 := ⟨_, rfl⟩
    obtain ⟨d, hd⟩ : ∃ d, d = g + 1 := ⟨_, rfl⟩
    have hk96 : k < 96 := by omega
    have hg3 : g < 3 := by omega
    have r1 : (pb : Int).tmod 96 = (k : Int) := by rw [Int.tmod_eq_emod_of_nonneg (by omega)]; omega
    have r1' : (pb : Int) % 96 = (k : Int) := by omega
    have r2 : (gb : Int).tmod 3 = (g : Int) := by rw [Int.tmod_eq_emod_of_nonneg (by omega)]; omega
    have r2' : (gb : Int) % 3 = (g : Int) := by omega
    have r3 : (1 : Int) + (g : Int) = (d : Int) := by omega
    obtain ⟨q, hq⟩ : ∃ q, q = 256 + k := ⟨_, rfl⟩
    have r5 : (256 : Int) + (k : Int) = (q : Int) := by omega
    obtain ⟨a, ha⟩ : ∃ a : Ar, a = ⟨4, 2, true, (d : Int), 0, 0⟩ := ⟨_, rfl⟩
    have hsa : soundA a := by
      rw [ha]
      unfold soundA
      simp
      omega
    have hwa : WAr' a := by
      rw [ha]
      exact ⟨rfl, rfl, wf64 (by simp only; omega) (by simp only; omega), rfl, rfl⟩
    have hin : ∀ x, 256 ≤ x → x < 384 → inAr a x := by
      intro x h1 h2
      rw [ha]
      unfold inAr
      simp only
      omega
    have HP := Lib.hid (show k < 96 ∧ q = 256 + k ∧ l0 ≠ 0 ∧ l0 ≤ 32 from ⟨hk96, hq, by omega, by omega⟩)
    have HSA := Lib.hid hsa
    have HWA := Lib.hid hwa
    have HIN := Lib.hid hin
    have HA := Lib.hid ha
    clear hp hg hk hgk hd hq ha hsa hwa hin
    go_enter Tryz.func5, Tryz.ntmps5
    go_wp2_with fail
    refine (fresh_any 2 2 (by omega) (by omega) w).mono ?_
    intro e w1 hf
    obtain ⟨gS, gW, fl, rfl, ht1⟩ := SpT.begin hf
    have HT1 := Lib.hid ht1
    clear hf ht1
    go_wp2_with fail
    refine (t_of HT1.out fun K h => space_spawn gS K _ 63 64 0 _ 0 (by omega) (uw0_pr fl 0) h).mono ?_
    rintro e w2 ⟨rfl, ht⟩
    obtain ⟨W2, hW2⟩ : ∃ W2, W2 = spawnU (uw0 fl) 0 := ⟨_, rfl⟩
    rw [← hW2] at ht
    have HT2 := Lib.hid ht
    have HQ2 := Lib.hid (show W2.pr 0 = some ⟨[], []⟩ from by rw [hW2]; exact spawn_pr _ _)
    have HO2 := Lib.hid (show ∀ q, W2.own 0 q = none from by intro q; rw [hW2]; rfl)
    clear ht hW2
    go_wp2_with fail
    rw [show (#[.int .i64 4, .int .i64 2, .bool true, .int .i64 (d : Int), .int .i64 0, .int .i64 0] : Array Value) = (arL a).toArray by rw [HA.out]; rfl]
    refine (t_of HT2.out fun K h => space_map1 0 [] a HWA.out HSA.out HQ2.out h).mono ?_
    rintro e w3 ⟨rfl, ht⟩
    obtain ⟨W3, hW3⟩ : ∃ W3, W3 = arsU W2 0 [a] := ⟨_, rfl⟩
    rw [← hW3] at ht
    have HT3 := Lib.hid ht
    have H13 := Lib.hid (show One W3 0 a from by rw [hW3]; exact ars_one HQ2.out a)
    have HQ3 := Lib.hid (show W3.pr 0 = some ⟨[a], []⟩ from by rw [hW3]; exact ars_pr HQ2.out [a])
    have HO3 := Lib.hid (show ∀ q, W3.own 0 q = none from by rw [hW3]; exact HO2.out)
    clear ht hW3
    go_wp2_with fail
    have hij : ∀ j, j < xs.length → inAr a (q + j) := fun j hj => HIN.out _ (by have := HP.out; omega) (by have := HP.out; rw [E0.out] at hj; omega)
    refine (t_in HT3.out HV.out fun K h hb ho => space_store gS K _ 54 60 1 w3 0 q _ xs _ H13.out (by rw [HA.out]) hb ho (by have := HP.out; rw [E0.out]; omega) (by have := HP.out; rw [E0.out]; omega) hij h).mono ?_
    rintro e w4 ⟨rfl, ht⟩
    obtain ⟨s1, s2⟩ := stored H13.out (by rw [HA.out]; show (0 : Int) ≤ 4; omega) (fun _ => HO3.out) hij
    obtain ⟨W4, hW4⟩ : ∃ W4, W4 = storeU W3 0 q xs := ⟨_, rfl⟩
    rw [← hW4] at ht s1 s2
    have HT4 := Lib.hid ht
    have HQ4 := Lib.hid (show W4.pr 0 = some ⟨[a], []⟩ from by rw [s1]; exact HQ3.out)
    have H14 := Lib.hid (show One W4 0 a from ⟨_, HQ4.out, rfl⟩)
    have HS4 := Lib.hid s2
    clear ht hW4 s1 s2 hij
    go_wp2_with fail
    refine (t_of HT4.out fun K h => space_protect1 0 [] a _ _ false (by rw [HA.out]) (by rw [HA.out]) HWA.out HSA.out HQ4.out h).mono ?_
    rintro e w5 ⟨rfl, ht⟩
    obtain ⟨W5, hW5⟩ : ∃ W5, W5 = arsU W4 0 [setW false a] := ⟨_, rfl⟩
    rw [← hW5] at ht
    have HT5 := Lib.hid ht
    have HQ5 := Lib.hid (show W5.pr 0 ≠ none from by rw [hW5, ars_pr HQ4.out]; simp)
    have H15 := Lib.hid (show One W5 0 (setW false a) from by rw [hW5]; exact ars_one HQ4.out _)
    have HS5 := Lib.hid (show bytesU W5 0 q l0 = xs from by rw [hW5, bytes_setW false H14.out, ← E0.out]; exact HS4.out)
    clear ht hW5
    go_wp2_with fail
    refine (t_in HT5.out HV.out fun K h hb ho => space_store_no gS K _ 57 60 7 w5 0 q _ xs HQ5.out hb (by have := HP.out; rw [E0.out]; omega) (by have := HP.out; rw [E0.out]; omega) (by have := HP.out; rw [E0.out]; omega) (not_may_read H15.out rfl) h).mono ?_
    rintro e w6 ⟨rfl, ht⟩
    have HT6 := Lib.hid ht
    clear ht
    go_wp2_with fail
    have hij : ∀ j, j < l0 → inAr (setW false a) (q + j) := fun j hj => HIN.out _ (by have := HP.out; omega) (by have := HP.out; omega)
    refine (t_load HT6.out fun K h => space_load gS K _ 48 56 7 w6 0 q l0 HQ5.out (by have := HP.out; omega) (by have := HP.out; omega) (mayAll_one H15.out (fun h => by cases h) hij) h).mono ?_
    rintro e w7 ⟨v7, rfl, ht⟩
    rw [HS5.out] at ht
    have HT7 := Lib.hid ht
    have hx7 := ht.bts (List.mem_cons_self ..)
    obtain ⟨A7, n7, c7, rfl, -⟩ := id hx7
    clear ht hx7 hij
    go_wp2_with fail
    refine (t_in HT7.out HV.out fun K h hb ho => space_store_no gS K _ 51 56 13 w7 0 128 _ xs HQ5.out hb (by have := HP.out; rw [E0.out]; omega) (by have := HP.out; rw [E0.out]; omega) (by have := HP.out; rw [E0.out]; omega) (not_may_out H15.out (by rw [HA.out]; simp [setW])) h).mono ?_
    rintro e w8 ⟨rfl, ht⟩
    have HT8 := Lib.hid ht
    clear ht
    go_wp2_with fail
    refine (t_of HT8.out fun K h => space_load_no gS K _ 51 56 13 w8 0 128 1 HQ5.out (by omega) (by omega) (by omega) (not_may_out H15.out (by rw [HA.out]; simp [setW])) h).mono ?_
    rintro e w9 ⟨rfl, ht⟩
    have HT9 := Lib.hid (ht.fresh ((Below.refl w9.heap.size w9).alloc (Nat.le_refl _) (.cells #[.int .u8 1, .int .u8 2] 5)))
    have hz : Bts (w9.alloc (.cells #[.int .u8 1, .int .u8 2] 5)) (w9.alloc (.cells #[.int .u8 1, .int .u8 2] 5)).heap.size (.slice (some ⟨w9.heap.size, 0, none⟩) 2 2) [1, 2] :=
      Bts.of_whole (xs := [1, 2]) (Blk.new w9 5 #[.int .u8 1, .int .u8 2]) rfl (by simp [maxLen]) (by decide)
    have HZ := Lib.hid hz
    clear ht hz
    go_wp2_with fail
    refine (t_of HT9.out fun K h => space_store_no gS K _ 51 56 13 _ 0 383 _ [1, 2] HQ5.out HZ.out (by decide) (by decide) (by decide) (not_may_read H15.out rfl) h).mono ?_
    rintro e w10 ⟨rfl, ht⟩
    have HT10 := Lib.hid ht
    clear ht
    go_wp2_with fail
    refine (spaceAnswers_any w10).mono ?_
    rintro e w11 ⟨rfl, hb⟩
    have HT11 := Lib.hid (HT10.out.fresh hb)
    clear hb
    go_wp2_with fail
    refine (same_any _ _ _ _ _ _ _ (HT11.out.bts (List.mem_cons_self ..)) (HV.out.below HT11.out.below)).mono ?_
    rintro e w12 ⟨rfl, m, rfl⟩
    rw [decide_eq_true rfl]
    have HB := Lib.hid HT11.out.below
    go_wp2
    go_ret
    exact ⟨rfl, below_drewN HB.out m⟩
end Go.Proofs.YtgjkdnpidobabaaGreat

