/-
  SignalOrder and SignalRound answer true.
  Conditions: the list is read in memory.
-/
import Derived.Test.YtkdniihnilcpfaaSigA
import Derived.BigQuiet
import Derived.Deep.QuietTactic
namespace Go.Proofs.Ytkdniihnilcpfaa
open Go.RowKit
set_option linter.unusedVariables false

/-- Signals that differ in their addresses alone. -/
def sgs (xs : List Int) : List Pl := xs.map (fun x => ⟨0, x⟩)
theorem sgs_length (xs : List Int) : (sgs xs).length = xs.length := List.length_map _
theorem take_succ_getD {xs : List Int} {i : Nat} (h : i < xs.length) : xs.take (i + 1) = xs.take i ++ [xs.getD i 0] := by
  rw [List.take_add_one, List.getElem?_eq_getElem h]
  simp [h]
theorem drop_getD {xs : List Int} {i : Nat} (h : i < xs.length) : xs.drop i = xs.getD i 0 :: xs.drop (i + 1) := by
  rw [List.drop_eq_getElem_cons h]
  simp [h]
set_option maxRecDepth 20000
set_option maxHeartbeats 1600000
theorem signalOrder_any (v0 : Value) (xs : List Int) (w : World) (h0 : Its w w.heap.size v0 xs) :
    Calls Try.prog 5 #[v0] w fun e w' => e = .returned (.bool true) ∧ Below w.heap.size w w' := by
  obtain ⟨A, N, c, rfl, hN, h1, h2, h3⟩ := h0
  have HZ := Lib.hid h3
  have HN := Lib.hid hN
  have hml : N ≤ maxLen := by omega
  unfold maxLen at hml
  clear hN h1 h2 h3
  go_enter Try.func5, Try.ntmps5
  go_wp2_with fail
  refine (sg_new w w 16 (Below.refl _ _) (fun _ => False) (noZq w)).mono ?_
  rintro e w1 ⟨gQ, rfl, h1, -⟩
  rw [show near16 16 = 16 from rfl] at h1
  have S1 := Lib.hid h1
  clear h1
  obtain ⟨M, hM⟩ : ∃ M, M = min N 16 := ⟨_, rfl⟩
  have hM2 : M ≤ N ∧ M ≤ 16 ∧ (M = N ∨ M = 16) := by omega
  clear hM
  go_wp2_with fail
  go_loopg [4, 5] M (fun gg s4 s5 wx => ∃ i : Nat, i + gg = M ∧ s5 = .int .i64 (i : Int) ∧ s4 = .int .i64 (i : Int) ∧ SigT w wx gQ 16 (sgs (xs.take i)) (fun _ => False))
  case atStart => exact ⟨0, by omega, rfl, rfl, S1.out⟩
  case round =>
    obtain ⟨i, hig, rfl, rfl, h5⟩ := hrel
    have S5 := Lib.hid h5
    clear h5 S1
    by_cases hlt : i < M
    · have t4 : decide ((i : Int) < (N : Int)) = true := decide_eq_true (by omega)
      have t4b : decide ((i : Int) < 16) = true := decide_eq_true (by omega)
      have t5 : (i : Int) < (N : Int) := by omega
      have t6 : (0 : Int) ≤ (i : Int) := by omega
      obtain ⟨b1, o1, rfl, hbl, hcc⟩ := HZ.out (by omega)
      obtain ⟨y, hy⟩ : ∃ y, y = xs.getD i 0 := ⟨_, rfl⟩
      have hcell : wr.cell? ⟨b1, o1 + i, none⟩ = some (.int .i64 y) := (S5.out.bel.cell hbl).trans (by rw [hy]; exact hcc i (by omega))
      have PT := Lib.hid (sg_put S5.out (noZq wr) ⟨0, y⟩)
      have hlen : (sgs (xs.take i)).length = i := by rw [sgs_length, List.length_take, HN.out]; omega
      have hnx : sgs (xs.take i) ++ [⟨0, y⟩] = sgs (xs.take (i + 1)) := by rw [take_succ_getD (by rw [HN.out]; omega), ← hy]; simp [sgs]
      rw [decide_eq_true (show (sgs (xs.take i)).length < 16 from by rw [hlen]; omega), putQ_in _ (show (sgs (xs.take i)).length < 16 from by rw [hlen]; omega), hnx] at PT
      clear hcc hy hlen hnx
      go_wp2_with fail
      refine PT.out.mono ?_
      rintro e w3 ⟨rfl, h4, -, -, -⟩
      have S3 := Lib.hid h4
      clear h4
      go_wp2_with fail
      go_roundg (M - (i + 1))
      case measure => omega
      case rel => exact ⟨i + 1, by omega, by go_num, by go_num, S3.out⟩
    · obtain rfl : i = M := by omega
      have hcond : (decide ((i : Int) < (N : Int)) = false ∧ ¬ i < N) ∨ (decide ((i : Int) < (N : Int)) = true ∧ decide ((i : Int) < 16) = false ∧ i < N ∧ ¬ i < 16) := by
        rcases hM2.2.2 with h | h
        · exact .inl ⟨decide_eq_false (by omega), by omega⟩
        · by_cases h2 : i < N
          · exact .inr ⟨decide_eq_true (by omega), decide_eq_false (by omega), h2, by omega⟩
          · exact .inl ⟨decide_eq_false (by omega), h2⟩
      have HM2 := Lib.hid hM2
      clear hlt
      rcases hcond with ⟨t4, t4a⟩ | ⟨t4, t4b, t4a, t4c⟩
      all_goals
        clear hM2
        go_wp2_with fail
        go_loopg [6, 7, 8] i (fun gg s6 _ _ wx => ∃ j : Nat, j + gg = i ∧ s6 = .int .i64 (j : Int) ∧ SigT w wx gQ 16 (sgs ((xs.take i).drop j)) (fun _ => False))
        case atStart => exact ⟨0, by omega, rfl, S5.out⟩
        case round =>
          obtain ⟨j, hjg, rfl, h6⟩ := hrel
          have S6 := Lib.hid h6
          clear h6
          by_cases hlt2 : j < i
          · have u4 : decide ((j : Int) < (i : Int)) = true := decide_eq_true (by omega)
            have u5 : (j : Int) < (N : Int) := by have := HM2.out; omega
            have u6 : (0 : Int) ≤ (j : Int) := by omega
            have hjN : j < N := by have := HM2.out; omega
            obtain ⟨b1, o1, rfl, hbl, hcc⟩ := HZ.out (by omega)
            obtain ⟨y, hy⟩ : ∃ y, y = xs.getD j 0 := ⟨_, rfl⟩
            have hil : i ≤ xs.length := by rw [HN.out]; exact HM2.out.1
            have hdj : (xs.take i).drop j = y :: (xs.take i).drop (j + 1) := by
              rw [drop_getD (by rw [List.length_take]; omega), hy]
              simp [hlt2]
            have PT := Lib.hid (sg_take S6.out (noZq wr))
            rw [hdj, show takeQ (sgs (y :: (xs.take i).drop (j + 1))) = .tuple #[.agg #[.int .i64 0, .int .i64 y], .bool true] from rfl, show (sgs (y :: (xs.take i).drop (j + 1))).tail = sgs ((xs.take i).drop (j + 1)) from rfl] at PT
            have HC := Lib.hid (show w.cell? ⟨b1, o1 + j, none⟩ = some (.int .i64 y) from by rw [hy]; exact hcc j hjN)
            clear hcc hy hdj hil
            go_wp2_with fail
            refine PT.out.mono ?_
            rintro e w3 ⟨rfl, h4, -, -, -⟩
            obtain ⟨W3, hW3⟩ : ∃ W3, W3 = w3.alloc (.cells #[Value.int .i64 0, Value.int .i64 y] 29) := ⟨_, rfl⟩
            have S3 := Lib.hid (show SigT w W3 gQ 16 (sgs ((xs.take i).drop (j + 1))) (fun _ => False) from by rw [hW3]; exact h4.fresh ((Below.refl _ _).alloc (Nat.le_refl _) _)
            )
            have f1 : W3.cell? ⟨w3.heap.size, 1, none⟩ = some (.int .i64 y) := by rw [hW3]; exact (Blk.new _ _ _).cell 1
            have f2 : W3.cell? ⟨b1, o1 + j, none⟩ = some (.int .i64 y) := (S3.out.bel.cell hbl).trans HC.out
            have e1 : (y != y) = false := by simp
            clear h4
            go_wp2_with fail
            rw [← hW3]
            clear hW3
            go_quiet (fail)
            have S4 := Lib.hid (S3.out.fresh (below_drewN (Below.refl _ _) nq))
            go_wp2_with fail
            go_roundg (i - (j + 1))
            case measure => omega
            case rel => exact ⟨j + 1, by omega, by go_num, S4.out⟩
          · obtain rfl : j = i := by omega
            have u4 : decide ((j : Int) < (j : Int)) = false := decide_eq_false (by omega)
            have PT := Lib.hid (sg_take S6.out (noZq wr))
            rw [show (xs.take j).drop j = [] from by simp, show takeQ (sgs []) = .tuple #[.agg #[.int .i64 0, .int .i64 0], .bool false] from rfl, show (sgs []).tail = [] from rfl] at PT
            go_wp2_with fail
            refine PT.out.mono ?_
            rintro e w7 ⟨rfl, h7, -, -, -⟩
            have S7 := Lib.hid (h7.fresh ((Below.refl _ w7).alloc (Nat.le_refl _) (.cells #[Value.int .i64 0, Value.int .i64 0] 29)))
            clear h7
            go_wp2_with fail
            refine (sigAnswers_any _).mono ?_
            rintro e w8 ⟨rfl, hb⟩
            have S8 := Lib.hid (S7.out.fresh hb)
            clear hb
            go_wp2
            go_ret
            exact ⟨rfl, S8.out.bel⟩
end Go.Proofs.Ytkdniihnilcpfaa
