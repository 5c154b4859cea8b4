/-
  What a program that does nothing does not answer.
  Conditions: those that each line bears.
-/
import Derived.Test.YtgjkdnpidobabaaGreatQa50
import Derived.Lib.SlBytesConst
set_option linter.unusedSimpArgs false
set_option linter.unusedSectionVars false
set_option linter.unusedVariables false
namespace Go.Proofs.YtgjkdnpidobabaaGreat
open Go.RowKit
set_option linter.unusedVariables false

def eight : List Nat := [97, 98, 99, 100, 101, 102, 103, 104]
def arT : Ar := ⟨0, 2, true, 1, 0, 0⟩
set_option maxRecDepth 20000 in
set_option maxHeartbeats 1600000 in
theorem spaceAnswers_any (w : World) : Calls Tryz.prog 9 #[] w fun e w' => e = .returned (.bool true) ∧ Below w.heap.size w w' := by
  go_enter Tryz.func9, Tryz.ntmps9
  go_wp2_with fail
  refine (fresh_any 2 2 (by omega) (by omega) w).mono ?_
  intro e w1 hf
  obtain ⟨gS, gW, fl, rfl, ht1⟩ := SpT.begin hf
  have HT1 := Lib.hid ht1
  clear hf ht1
  go_wp2_with fail
  refine (t_of HT1.out fun K h => space_spawn gS K _ 63 64 0 w1 1 (by omega) (uw0_pr fl 1) h).mono ?_
  rintro e w2 ⟨rfl, ht⟩
  have HT2 := Lib.hid ht
  clear ht
  obtain ⟨W2, hW2⟩ : ∃ W2, W2 = spawnU (uw0 fl) 1 := ⟨_, rfl⟩
  rw [← hW2] at HT2
  have hp2 : W2.pr 1 = some ⟨[], []⟩ := by rw [hW2]; exact spawn_pr _ _
  have ho2 : ∀ q, W2.own 1 q = none := by intro q; rw [hW2]; rfl
  go_wp2_with fail
  refine (t_of HT2.out fun K h => space_map1 1 [] arT (by decide) (by unfold soundA arT; simp) hp2 h).mono ?_
  rintro e w3 ⟨rfl, ht⟩
  have HT3 := Lib.hid ht
  clear ht
  obtain ⟨W3, hW3⟩ : ∃ W3, W3 = arsU W2 1 [arT] := ⟨_, rfl⟩
  rw [← hW3] at HT3
  have h13 : One W3 1 arT := by rw [hW3]; exact ars_one hp2 arT
  have hp3 : W3.pr 1 ≠ none := by rw [hW3, ars_pr hp2]; simp
  have hin : ∀ x, 60 ≤ x → x < 128 → inAr arT x := by
    intro x h1 h2
    unfold inAr arT
    simp only
    omega
  have hcv0 := Lib.run_convert_bytes_const (P := Tryz.prog) w3 22 5 #[.int .u8 97, .int .u8 98, .int .u8 99, .int .u8 100, .int .u8 101, .int .u8 102, .int .u8 103, .int .u8 104] 8 8 Tryz.underlying22 Tryz.underlying5
  have HW := Lib.hid hW2
  have HP2 := Lib.hid hp2
  have HO2 := Lib.hid ho2
  have HW3 := Lib.hid hW3
  have H13 := Lib.hid h13
  have HP3 := Lib.hid hp3
  have HIN := Lib.hid hin
  clear hW2 hp2 ho2 hW3 h13 hp3 hin
  obtain ⟨w4, hw4⟩ : ∃ w4, w4 = w3.alloc (.cells #[.int .u8 97, .int .u8 98, .int .u8 99, .int .u8 100, .int .u8 101, .int .u8 102, .int .u8 103, .int .u8 104] 5 (8, 9)) := ⟨_, rfl⟩
  have hcv : (convert 22 22 (.slice (some ⟨w3.heap.size, 0, none⟩) 8 8)).run Tryz.prog (w3.alloc (.cells #[.int .u8 97, .int .u8 98, .int .u8 99, .int .u8 100, .int .u8 101, .int .u8 102, .int .u8 103, .int .u8 104] 5)) = .ok (.slice (some ⟨w3.heap.size, 0, none⟩) 8 8) w4 := by rw [hw4]; exact hcv0
  have hb4 : Below w3.heap.size w3 w4 := by rw [hw4]; exact (Below.refl _ _).alloc (Nat.le_refl _) _
  have hx4 : Bts w4 w4.heap.size (.slice (some ⟨w3.heap.size, 0, none⟩) 8 8) eight :=
    ⟨_, 8, 8, rfl, rfl, by simp [maxLen], ⟨by omega, fun h => by cases h⟩, by simp [maxLen], (fun j hj => by match j, hj with | 0, _ | 1, _ | 2, _ | 3, _ | 4, _ | 5, _ | 6, _ | 7, _ => decide), fun _ => ⟨w3.heap.size, 0, rfl, by rw [hw4, World.size_alloc]; omega, fun j hj => by
      rw [hw4]
      match j, hj with
      | 0, _ => exact World.cell?_alloc_mark w3 _ _ _ 0
      | 1, _ => exact World.cell?_alloc_mark w3 _ _ _ 1
      | 2, _ => exact World.cell?_alloc_mark w3 _ _ _ 2
      | 3, _ => exact World.cell?_alloc_mark w3 _ _ _ 3
      | 4, _ => exact World.cell?_alloc_mark w3 _ _ _ 4
      | 5, _ => exact World.cell?_alloc_mark w3 _ _ _ 5
      | 6, _ => exact World.cell?_alloc_mark w3 _ _ _ 6
      | 7, _ => exact World.cell?_alloc_mark w3 _ _ _ 7⟩⟩
  have HB4 := Lib.hid hb4
  have HX4 := Lib.hid hx4
  clear hb4 hx4 hw4 hcv0
  go_wp2_with fail
  refine (t_new HT3.out HB4.out HX4.out (fun bk o s n c e => by injection e with e1; injection e1 with e1; injection e1 with e1; rw [← e1]; exact Nat.le_refl _) fun K h hb ho => space_store gS K _ 54 60 1 w4 1 60 _ eight _ H13.out rfl hb ho (by decide) (by decide) (fun j hj => HIN.out _ (by omega) (by have : eight.length = 8 := rfl; omega)) h).mono ?_
  rintro e w5 ⟨rfl, ht⟩
  have HT5 := Lib.hid ht
  clear ht hcv
  obtain ⟨s1, s2, s3, s4, s5, s6, s7⟩ := storeU_own (n := 1) (a := arT) (by unfold arT; decide) eight W3 60 H13.out (fun j hj => HIN.out _ (by omega) (by have : eight.length = 8 := rfl; omega))
  obtain ⟨W5, hW5⟩ : ∃ W5, W5 = storeU W3 1 60 eight := ⟨_, rfl⟩
  rw [← hW5] at HT5 s1 s7
  have h15 : One W5 1 arT := H13.out.congr (by rw [s1])
  have hp5 : W5.pr 1 ≠ none := by rw [s1]; exact HP3.out
  have hby : bytesU W5 1 62 4 = [99, 100, 101, 102] := by
    refine bytesU_eq (b := [99, 100, 101, 102]) fun j hj => ?_
    rw [s7, if_pos ⟨rfl, by omega, by have : eight.length = 8 := rfl; simp only [List.length_cons, List.length_nil] at hj; omega⟩]
    simp only [List.length_cons, List.length_nil] at hj
    match j, hj with
    | 0, _ => rfl
    | 1, _ => rfl
    | 2, _ => rfl
    | 3, _ => rfl
  have H15 := Lib.hid h15
  have HP5 := Lib.hid hp5
  have HBY := Lib.hid hby
  clear s1 s2 s3 s4 s5 s6 s7 hW5 h15 hp5 hby
  go_wp2_with fail
  refine (t_load HT5.out fun K h => space_load gS K _ 48 56 7 w5 1 62 4 HP5.out (by omega) (by omega) (mayAll_one H15.out (fun h => by cases h) (fun j hj => HIN.out _ (by omega) (by omega))) h).mono ?_
  rintro e w6 ⟨v6, rfl, ht⟩
  rw [HBY.out] at ht
  obtain ⟨A6, n6, c6, rfl, hn6, -, -, -, -, hx6⟩ := ht.bts (List.mem_cons_self ..)
  have hn6 : 4 = n6 := hn6
  subst hn6
  obtain ⟨bk, off, rfl, -, hc6⟩ := hx6 (by omega)
  have hst : (convert 22 9 (.slice (some ⟨bk, off, none⟩) 4 c6)).run Tryz.prog w6 = .ok (.string ⟨#[99, 100, 101, 102]⟩) w6 :=
    run_convert_bytes_back w6 22 9 5 ⟨bk, off, none⟩ c6 [99, 100, 101, 102] Tryz.underlying22 Tryz.underlying5 Tryz.underlying9 (fun j hj => by
      match j, hj with
      | 0, _ => exact hc6 0 (by omega)
      | 1, _ => exact hc6 1 (by omega)
      | 2, _ => exact hc6 2 (by omega)
      | 3, _ => exact hc6 3 (by omega))
  have HB6 := Lib.hid ht.below
  clear ht hx6 hc6
  go_wp2
  go_ret
  exact ⟨rfl, HB6.out⟩
end Go.Proofs.YtgjkdnpidobabaaGreat

