/-
  What a program that does nothing does not answer.
  SpaceZero: a page of its own that nobody stored is 0, also when it was there before, and went.
  Conditions: those that each line bears.
-/
import Derived.Test.YtgjkdnpidobabaaGreatQb50
import Derived.Lib.SlBytesConst
import Derived.Test.YtgjkdnpidobabaaGreatQb48
set_option linter.unusedSimpArgs false
set_option linter.unusedSectionVars false
set_option linter.unusedVariables false
namespace Go.Proofs.YtgjkdnpidobabaaGreat
open Go.RowKit
set_option linter.unusedVariables false

def eight : List Nat := [97, 98, 99, 100, 101, 102, 103, 104]
def arT : Ar := ⟨0, 2, true, 1, 0, 0⟩
set_option maxRecDepth 20000 in
set_option maxHeartbeats 1600000 in
theorem spaceAnswers_any (w : World) : Calls Tryz.prog 9 #[] w fun e w' => e = .returned (.bool true) ∧ Below w.heap.size w w' := by
  go_enter Tryz.func9, Tryz.ntmps9
  go_wp2_with fail
  refine (fresh_any 2 2 (by omega) (by omega) w).mono ?_
  intro e w1 hf
  obtain ⟨gS, gW, fl, rfl, ht1⟩ := SpT.begin hf
  have HT1 := Lib.hid ht1
  clear hf ht1
  go_wp2_with fail
  refine (t_of HT1.out fun K h => space_spawn gS K _ 63 64 0 w1 1 (by omega) (uw0_pr fl 1) h).mono ?_
  rintro e w2 ⟨rfl, ht⟩
  have HT2 := Lib.hid ht
  clear ht
  obtain ⟨W2, hW2⟩ : ∃ W2, W2 = spawnU (uw0 fl) 1 := ⟨_, rfl⟩
  rw [← hW2] at HT2
  have hp2 : W2.pr 1 = some ⟨[], []⟩ := by rw [hW2]; exact spawn_pr _ _
  have ho2 : ∀ q, W2.own 1 q = none := by intro q; rw [hW2]; rfl
  go_wp2_with fail
  refine (t_of HT2.out fun K h => space_map1 1 [] arT (by decide) (by unfold soundA arT; simp) hp2 h).mono ?_
  rintro e w3 ⟨rfl, ht⟩
  have HT3 := Lib.hid ht
  clear ht
  obtain ⟨W3, hW3⟩ : ∃ W3, W3 = arsU W2 1 [arT] := ⟨_, rfl⟩
  rw [← hW3] at HT3
  have h13 : One W3 1 arT := by rw [hW3]; exact ars_one hp2 arT
  have hp3 : W3.pr 1 ≠ none := by rw [hW3, ars_pr hp2]; simp
  have hin : ∀ x, 60 ≤ x → x < 128 → inAr arT x := by
    intro x h1 h2
    unfold inAr arT
    simp only
    omega
  have hcv0 := Lib.run_convert_bytes_const (P := Tryz.prog) w3 22 5 #[.int .u8 97, .int .u8 98, .int .u8 99, .int .u8 100, .int .u8 101, .int .u8 102, .int .u8 103, .int .u8 104] 8 8 Tryz.underlying22 Tryz.underlying5
  have HW := Lib.hid hW2
  have HP2 := Lib.hid hp2
  have HO2 := Lib.hid ho2
  have HW3 := Lib.hid hW3
  have H13 := Lib.hid h13
  have HP3 := Lib.hid hp3
  have HIN := Lib.hid hin
  clear hW2 hp2 ho2 hW3 h13 hp3 hin
  obtain ⟨w4, hw4⟩ : ∃ w4, w4 = w3.alloc (.cells #[.int .u8 97, .int .u8 98, .int .u8 99, .int .u8 100, .int .u8 101, .int .u8 102, .int .u8 103, .int .u8 104] 5 (8, 9)) := ⟨_, rfl⟩
  have hcv : (convert 22 22 (.slice (some ⟨w3.heap.size, 0, none⟩) 8 8)).run Tryz.prog (w3.alloc (.cells #[.int .u8 97, .int .u8 98, .int .u8 99, .int .u8 100, .int .u8 101, .int .u8 102, .int .u8 103, .int .u8 104] 5)) = .ok (.slice (some ⟨w3.heap.size, 0, none⟩) 8 8) w4 := by rw [hw4]; exact hcv0
  have hb4 : Below w3.heap.size w3 w4 := by rw [hw4]; exact (Below.refl _ _).alloc (Nat.le_refl _) _
  have hx4 : Bts w4 w4.heap.size (.slice (some ⟨w3.heap.size, 0, none⟩) 8 8) eight :=
    ⟨_, 8, 8, rfl, rfl, by simp [maxLen], ⟨by omega, fun h => by cases h⟩, by simp [maxLen], (fun j hj => by match j, hj with | 0, _ | 1, _ | 2, _ | 3, _ | 4, _ | 5, _ | 6, _ | 7, _ => decide), fun _ => ⟨w3.heap.size, 0, rfl, by rw [hw4, World.size_alloc]; omega, fun j hj => by
      rw [hw4]
      match j, hj with
      | 0, _ => exact World.cell?_alloc_mark w3 _ _ _ 0
      | 1, _ => exact World.cell?_alloc_mark w3 _ _ _ 1
      | 2, _ => exact World.cell?_alloc_mark w3 _ _ _ 2
      | 3, _ => exact World.cell?_alloc_mark w3 _ _ _ 3
      | 4, _ => exact World.cell?_alloc_mark w3 _ _ _ 4
      | 5, _ => exact World.cell?_alloc_mark w3 _ _ _ 5
      | 6, _ => exact World.cell?_alloc_mark w3 _ _ _ 6
      | 7, _ => exact World.cell?_alloc_mark w3 _ _ _ 7⟩⟩
  have HB4 := Lib.hid hb4
  have HX4 := Lib.hid hx4
  clear hb4 hx4 hw4 hcv0
  go_wp2_with fail
  refine (t_new HT3.out HB4.out HX4.out (fun bk o s n c e => by injection e with e1; injection e1 with e1; injection e1 with e1; rw [← e1]; exact Nat.le_refl _) fun K h hb ho => space_store gS K _ 54 60 1 w4 1 60 _ eight _ H13.out rfl hb ho (by decide) (by decide) (fun j hj => HIN.out _ (by omega) (by have : eight.length = 8 := rfl; omega)) h).mono ?_
  rintro e w5 ⟨rfl, ht⟩
  have HT5 := Lib.hid ht
  clear ht hcv
  obtain ⟨s1, s2, s3, s4, s5, s6, s7⟩ := storeU_own (n := 1) (a := arT) (by unfold arT; decide) eight W3 60 H13.out (fun j hj => HIN.out _ (by omega) (by have : eight.length = 8 := rfl; omega))
  obtain ⟨W5, hW5⟩ : ∃ W5, W5 = storeU W3 1 60 eight := ⟨_, rfl⟩
  rw [← hW5] at HT5 s1 s7
  have h15 : One W5 1 arT := H13.out.congr (by rw [s1])
  have hp5 : W5.pr 1 ≠ none := by rw [s1]; exact HP3.out
  have hby : bytesU W5 1 62 4 = [99, 100, 101, 102] := by
    refine bytesU_eq (b := [99, 100, 101, 102]) fun j hj => ?_
    rw [s7, if_pos ⟨rfl, by omega, by have : eight.length = 8 := rfl; simp only [List.length_cons, List.length_nil] at hj; omega⟩]
    simp only [List.length_cons, List.length_nil] at hj
    match j, hj with
    | 0, _ => rfl
    | 1, _ => rfl
    | 2, _ => rfl
    | 3, _ => rfl
  have H15 := Lib.hid h15
  have HP5 := Lib.hid hp5
  have HBY := Lib.hid hby
  clear s1 s2 s3 s4 s5 s6 s7 hW5 h15 hp5 hby
  go_wp2_with fail
  refine (t_load HT5.out fun K h => space_load gS K _ 48 56 7 w5 1 62 4 HP5.out (by omega) (by omega) (mayAll_one H15.out (fun h => by cases h) (fun j hj => HIN.out _ (by omega) (by omega))) h).mono ?_
  rintro e w6 ⟨v6, rfl, ht⟩
  rw [HBY.out] at ht
  obtain ⟨A6, n6, c6, rfl, hn6, -, -, -, -, hx6⟩ := ht.bts (List.mem_cons_self ..)
  have hn6 : 4 = n6 := hn6
  subst hn6
  obtain ⟨bk, off, rfl, -, hc6⟩ := hx6 (by omega)
  have hst : (convert 22 9 (.slice (some ⟨bk, off, none⟩) 4 c6)).run Tryz.prog w6 = .ok (.string ⟨#[99, 100, 101, 102]⟩) w6 :=
    run_convert_bytes_back w6 22 9 5 ⟨bk, off, none⟩ c6 [99, 100, 101, 102] Tryz.underlying22 Tryz.underlying5 Tryz.underlying9 (fun j hj => by
      match j, hj with
      | 0, _ => exact hc6 0 (by omega)
      | 1, _ => exact hc6 1 (by omega)
      | 2, _ => exact hc6 2 (by omega)
      | 3, _ => exact hc6 3 (by omega))
  have HB6 := Lib.hid ht.below
  clear ht hx6 hc6
  go_wp2
  go_ret
  exact ⟨rfl, HB6.out⟩
end Go.Proofs.YtgjkdnpidobabaaGreat

namespace Go.Proofs.YtgjkdnpidobabaaGreat
open Go.RowKit
set_option linter.unusedVariables false

theorem space_unmap1 {w : World} {gS : Nat} {K : Nat → Prop} {W : UW} {nr mv u : Nat} (n : Nat) (s : List Int) (a : Ar) (f p : Int) (hf : f = a.fr) (hp' : p = a.pg) (wa : WAr' a) (hs : soundA a) (hp : W.pr n = some ⟨[a], s⟩) (h : SpcMem w gS K W (nr + 3) mv u) :
    Calls Tryz.prog 17 #[.pointer (some ⟨gS, 0, none⟩), .int .i64 (n : Int), .int .i64 f, .int .i64 p] w (SpPost w gS K (.int .i64 0) (goneU (arsU W n []) n f p) (nr + 3) mv u) := by
  subst hf hp'
  have := space_unmap gS K W nr mv u w n _ a.fr a.pg wa.1 wa.2.1 hp h
  simp only [cutE_whole a hs, outA_whole a hs, if_true] at this
  exact this
theorem make64z (w : World) : (Instr.makeSlice 22 (.int .i64 64) (.int .i64 64)).run Tryz.prog w = .ok (.slice (some ⟨w.heap.size, 0, none⟩) 64 64) (w.alloc (.cells (zs 64) 5)) := make_zs 64 (by omega) w
set_option maxRecDepth 20000 in
set_option maxHeartbeats 4000000 in
theorem spaceZero_any (v0 : Value) (xs : List Nat) (pb gb : Nat) (w : World) (hv : Bts w w.heap.size v0 xs) (hp : pb < 256) (hg : gb < 256) :
    Calls Tryz.prog 4 #[v0, .int .u8 (pb : Int), .int .u8 (gb : Int)] w fun e w' => e = .returned (.bool true) ∧ Below w.heap.size w w' := by
  have HV := Lib.hid hv
  obtain ⟨A0, l0, c0, rfl, e0, -⟩ := hv
  have E0 := Lib.hid e0
  clear e0
  by_cases c : 64 < l0
  · have t1 : decide ((64 : Int) < (l0 : Int)) = true := decide_eq_true (by omega)
    go_enter Tryz.func4, Tryz.ntmps4
    go_wp2_with fail
    refine (spaceAnswers_any w).mono ?_
    rintro e w1 ⟨rfl, hb⟩
    go_wp2
    go_ret
    exact ⟨rfl, hb⟩
  · have t1 : decide ((64 : Int) < (l0 : Int)) = false := decide_eq_false (by omega)
    obtain ⟨k, hk⟩ : ∃ k, k = pb % 20 := ⟨_, rfl⟩
    obtain ⟨g, hgk⟩ : ∃ g, g = gb % 4 + 1 := ⟨_, rfl⟩
    have hk20 : k < 20 := by omega
    have hg4 : 1 ≤ g ∧ g ≤ 4 := by omega
    have r1 : (pb : Int).tmod 20 = (k : Int) := by rw [Int.tmod_eq_emod_of_nonneg (by omega)]; omega
    have r1' : (pb : Int) % 20 = (k : Int) := by omega
    have r2 : (gb : Int).tmod 4 = (g : Int) - 1 := by rw [Int.tmod_eq_emod_of_nonneg (by omega)]; omega
    obtain ⟨g0, hg0⟩ : ∃ g0 : Nat, g0 + 1 = g := ⟨g - 1, by omega⟩
    have r3 : (gb : Int).tmod 4 = (g0 : Int) := by omega
    have r3' : (gb : Int) % 4 = (g0 : Int) := by omega
    have r4 : (g0 : Int) + 1 = (g : Int) := by omega
    obtain ⟨q, hq⟩ : ∃ q, q = 64 * k := ⟨_, rfl⟩
    have r5 : (64 : Int) * (k : Int) = (q : Int) := by omega
    obtain ⟨a, ha⟩ : ∃ a : Ar, a = ⟨(k : Int), (g : Int), true, 1, 0, 0⟩ := ⟨_, rfl⟩
    have hsa : soundA a := by
      rw [ha]
      unfold soundA
      simp only
      refine ⟨⟨by omega, by omega, by omega, by omega, by omega, by omega⟩, .inl (by simp)⟩
    have hwa : WAr' a := by
      rw [ha]
      exact ⟨wf64 (by simp only; omega) (by simp only; omega), wf64 (by simp only; omega) (by simp only; omega), rfl, rfl, rfl⟩
    have hin : ∀ x, q ≤ x → x < q + 64 → inAr a x := by
      intro x h1 h2
      rw [ha]
      unfold inAr
      simp only
      omega
    have HP := Lib.hid (show pb < 256 ∧ gb < 256 ∧ k < 20 ∧ g ≤ 4 ∧ q = 64 * k from ⟨hp, hg, hk20, hg4.2, hq⟩)
    have HSA := Lib.hid hsa
    have HWA := Lib.hid hwa
    have HIN := Lib.hid hin
    have HA := Lib.hid ha
    clear hp hg hk hgk hg4 hg0 hq ha hsa hwa hin r2
    go_enter Tryz.func4, Tryz.ntmps4
    go_wp2_with fail
    refine (fresh_any 2 2 (by omega) (by omega) w).mono ?_
    intro e w1 hf
    obtain ⟨gS, gW, fl, rfl, ht1⟩ := SpT.begin hf
    have HT1 := Lib.hid (ht1.made 29 (arL a).toArray)
    rw [show (arL a).toArray = #[.int .i64 (k : Int), .int .i64 (g : Int), .bool true, .int .i64 1, .int .i64 0, .int .i64 0] by rw [HA.out]; rfl] at HT1
    clear hf ht1
    go_wp2_with fail
    refine (t_of HT1.out fun K h => space_spawn gS K _ 63 64 0 _ 3 (by omega) (uw0_pr fl 3) h).mono ?_
    rintro e w2 ⟨rfl, ht⟩
    obtain ⟨W2, hW2⟩ : ∃ W2, W2 = spawnU (uw0 fl) 3 := ⟨_, rfl⟩
    rw [← hW2] at ht
    have HT2 := Lib.hid ht
    have HQ2 := Lib.hid (show W2.pr 3 = some ⟨[], []⟩ from by rw [hW2]; exact spawn_pr _ _)
    have HO2 := Lib.hid (show ∀ q, W2.own 3 q = none from by intro q; rw [hW2]; rfl)
    have hb2 := ht.blk (List.mem_cons_self ..)
    have c0 := hb2.cell 0
    have c1 := hb2.cell 1
    have c2 := hb2.cell 2
    have c3 := hb2.cell 3
    have c4 := hb2.cell 4
    have c5 := hb2.cell 5
    simp only [List.getElem?_toArray] at c0 c1 c2 c3 c4 c5
    obtain ⟨gX, hgX⟩ : ∃ gX, gX = w1.heap.size := ⟨_, rfl⟩
    clear ht hW2 hb2
    go_wp2_with fail
    rw [show (#[.int .i64 (k : Int), .int .i64 (g : Int), .bool true, .int .i64 1, .int .i64 0, .int .i64 0] : Array Value) = (arL a).toArray by rw [HA.out]; rfl]
    refine (t_of HT2.out fun K h => space_map1 3 [] a HWA.out HSA.out HQ2.out h).mono ?_
    rintro e w3 ⟨rfl, ht⟩
    obtain ⟨W3, hW3⟩ : ∃ W3, W3 = arsU W2 3 [a] := ⟨_, rfl⟩
    rw [← hW3] at ht
    have HT3 := Lib.hid ht
    have H13 := Lib.hid (show One W3 3 a from by rw [hW3]; exact ars_one HQ2.out a)
    have HQ3 := Lib.hid (show W3.pr 3 = some ⟨[a], []⟩ from by rw [hW3]; exact ars_pr HQ2.out [a])
    clear ht hW3 c0 c1 c2 c3 c4 c5
    go_wp2_with fail
    rw [show (Value.int IntKind.i64 ((q : Nat) : Int)) = .int .i64 (q : Int) from rfl]
    refine (t_in HT3.out HV.out fun K h hb ho => space_store gS K _ 54 60 1 w3 3 q _ xs _ H13.out (by rw [HA.out]) hb ho (by rw [E0.out]; omega) (by have := HP.out; rw [E0.out]; omega) (fun j hj => HIN.out _ (by omega) (by rw [E0.out] at hj; omega)) h).mono ?_
    rintro e w4 ⟨rfl, ht⟩
    obtain ⟨s1, -⟩ := storeU_own (n := 3) (a := a) (by rw [HA.out]; simp) xs W3 q H13.out (fun j hj => HIN.out _ (by omega) (by rw [E0.out] at hj; omega))
    obtain ⟨W4, hW4⟩ : ∃ W4, W4 = storeU W3 3 q xs := ⟨_, rfl⟩
    rw [← hW4] at ht s1
    have HT4 := Lib.hid ht
    have HQ4 := Lib.hid (show W4.pr 3 = some ⟨[a], []⟩ from by rw [s1]; exact HQ3.out)
    have hb2 := ht.blk (List.mem_cons_self ..)
    have c1 := hb2.cell 1
    simp only [List.getElem?_toArray] at c1
    clear ht hW4 hb2 s1
    go_wp2_with fail
    refine (t_of HT4.out fun K h => space_unmap1 3 [] a _ _ (by rw [HA.out]) (by rw [HA.out]) HWA.out HSA.out HQ4.out h).mono ?_
    rintro e w5 ⟨rfl, ht⟩
    obtain ⟨W5, hW5⟩ : ∃ W5, W5 = goneU (arsU W4 3 []) 3 (k : Int) (g : Int) := ⟨_, rfl⟩
    rw [← hW5] at ht
    have HT5 := Lib.hid ht
    have HQ5 := Lib.hid (show W5.pr 3 = some ⟨[], []⟩ from by rw [hW5]; exact ars_pr HQ4.out [])
    have HO5 := Lib.hid (show W5.own 3 k = none from by
      rw [hW5]
      show (if 3 = 3 ∧ (k : Int) ≤ ((k : Nat) : Int) ∧ ((k : Nat) : Int) < (k : Int) + (g : Int) then none else _) = none
      rw [if_pos ⟨rfl, Int.le_refl _, by have := (show g = g0 + 1 by omega); omega⟩])
    clear ht hW5 c1
    go_wp2_with fail
    refine (t_of HT5.out fun K h => space_load_no gS K _ 57 60 7 w5 3 q 1 (by rw [HQ5.out]; simp) (by omega) (by omega) (by have := HP.out; omega) (by rintro ⟨c, hc, _⟩; rw [area_none HQ5.out] at hc; cases hc) h).mono ?_
    rintro e w6 ⟨rfl, ht⟩
    have HT6 := Lib.hid ht
    have hb2 := ht.blk (List.mem_cons_self ..)
    have c0 := hb2.cell 0
    have c1 := hb2.cell 1
    have c2 := hb2.cell 2
    have c3 := hb2.cell 3
    have c4 := hb2.cell 4
    have c5 := hb2.cell 5
    simp only [List.getElem?_toArray] at c0 c1 c2 c3 c4 c5
    clear ht hb2
    go_wp2_with fail
    rw [show (#[.int .i64 (k : Int), .int .i64 (g : Int), .bool true, .int .i64 1, .int .i64 0, .int .i64 0] : Array Value) = (arL a).toArray by rw [HA.out]; rfl]
    refine (t_of HT6.out fun K h => space_map1 3 [] a HWA.out HSA.out HQ5.out h).mono ?_
    rintro e w7 ⟨rfl, ht⟩
    obtain ⟨W7, hW7⟩ : ∃ W7, W7 = arsU W5 3 [a] := ⟨_, rfl⟩
    rw [← hW7] at ht
    have HT7 := Lib.hid ht
    have h17 : One W7 3 a := by rw [hW7]; exact ars_one HQ5.out a
    have H17 := Lib.hid h17
    have HO7 := Lib.hid (show W7.own 3 k = none from by rw [hW7]; exact HO5.out)
    have HQ7 := Lib.hid (show W7.pr 3 ≠ none from by rw [hW7, ars_pr HQ5.out]; simp)
    have HBY := Lib.hid (show bytesU W7 3 q 64 = zer from bytesU_eq (b := zer) (fun j hj => by
      have hj : j < 64 := by rwa [zer_length] at hj
      have e1 : (q + j) / 64 = k := by have := HP.out; omega
      have hi := HIN.out (q + j) (by omega) (by omega)
      rw [byte_zero (c := a) (by rw [e1]; exact HO7.out) (h17.area hi.1 hi.2) (by rw [HA.out])]
      unfold zer
      simp only [List.getD_eq_getElem?_getD, List.getElem?_replicate, hj, if_true, Option.getD_some]))
    clear ht hW7 h17 c0 c1 c2 c3 c4 c5
    go_wp2_with fail
    refine (t_load HT7.out fun K h => space_load gS K _ 48 56 7 w7 3 q 64 HQ7.out (by omega) (by have := HP.out; omega) (mayAll_one H17.out (fun h => by cases h) (fun j hj => HIN.out _ (by omega) (by omega))) h).mono ?_
    rintro e w8 ⟨v8, rfl, ht⟩
    rw [HBY.out] at ht
    have HT8 := Lib.hid ht
    have hx8 := ht.bts (List.mem_cons_self ..)
    obtain ⟨A8, n8, c8, rfl, -⟩ := id hx8
    clear ht hx8
    go_wp2_with fail
    refine (spaceAnswers_any w8).mono ?_
    rintro e w9 ⟨rfl, hb⟩
    have HT9 := Lib.hid (HT8.out.fresh hb)
    have hmk := make64z w9
    clear hb
    go_wp2_with fail
    have hz : Bts (w9.alloc (.cells (zs 64) 5)) (w9.alloc (.cells (zs 64) 5)).heap.size (.slice (some ⟨w9.heap.size, 0, none⟩) 64 64) zer :=
      Bts.of_whole (by have := Blk.new w9 5 (zs 64); rwa [show zs 64 = (zer.map bv).toArray by rw [zs_cells]; rfl] at this ⊢) zer_length (by simp [maxLen]) zer_byte
    have hb10 := (Below.refl w9.heap.size w9).alloc (Nat.le_refl _) (.cells (zs 64) 5)
    have HB10 := Lib.hid (HT9.out.below.trans (hb10.mono HT9.out.below.size))
    refine (same_any _ _ _ _ _ _ _ ((HT9.out.fresh hb10).bts (List.mem_cons_self ..)) hz).mono ?_
    rintro e w10 ⟨rfl, m, rfl⟩
    rw [decide_eq_true rfl]
    clear hz hb10 hmk
    go_wp2
    go_ret
    exact ⟨rfl, below_drewN HB10.out m⟩
end Go.Proofs.YtgjkdnpidobabaaGreat

