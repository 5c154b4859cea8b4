/-
  SignalRound answers true.
  Conditions: none beside the queue's contracts.
-/
import Derived.Test.YtkdniihnilcpfaaSigO
namespace Go.Proofs.Ytkdniihnilcpfaa
open Go.RowKit
set_option linter.unusedVariables false

/-- Signals with the numbers from i on, so many. -/
def rng (i d : Nat) : List Pl := sgs ((List.range' i d).map (fun (x : Nat) => (x : Int)))
theorem rng_length (i d : Nat) : (rng i d).length = d := by unfold rng; rw [sgs_length, List.length_map, List.length_range']
theorem rng_last (i d x : Nat) (h : x = i + d) : rng i d ++ [⟨0, (x : Int)⟩] = rng i (d + 1) := by
  unfold rng sgs
  rw [List.range'_1_concat, List.map_append, List.map_append, ← h]
  rfl
theorem rng_first (i d : Nat) : rng i (d + 1) = ⟨0, (i : Int)⟩ :: rng (i + 1) d := by
  unfold rng sgs
  rw [List.range'_succ]
  rfl
set_option maxRecDepth 20000
set_option maxHeartbeats 1600000
theorem signalRound_any (a b : Nat) (w : World) (ha : a < 256) (hb : b < 256) :
    Calls Try.prog 6 #[.int .u8 (a : Int), .int .u8 (b : Int)] w fun e w' => e = .returned (.bool true) ∧ Below w.heap.size w w' := by
  obtain ⟨r, hr⟩ : ∃ r, r = a % 16 := ⟨_, rfl⟩
  have r1 : (a : Int).tmod 16 = (r : Int) := by rw [Int.tmod_eq_emod_of_nonneg (by omega)]; omega
  have r2 : (a : Int) % 16 = (r : Int) := by omega
  obtain ⟨k, hk⟩ : ∃ k, k = r + 1 := ⟨_, rfl⟩
  have hk1 : (r : Int) + 1 = (k : Int) := by omega
  have hk16 : k ≤ 16 ∧ 1 ≤ k := by omega
  obtain ⟨k1, hkk⟩ : ∃ k1, k1 = k - 1 := ⟨_, rfl⟩
  have hk2 : (k : Int) - 1 = (k1 : Int) := by omega
  have HK := Lib.hid (show k = k1 + 1 from by omega)
  have NK := Lib.hid (near16_in hk16.1)
  have K16 := Lib.hid hk16
  clear hr hk hkk hk16
  go_enter Try.func6, Try.ntmps6
  go_wp2_with fail
  refine (sg_new w w (k : Int) (Below.refl _ _) (fun _ => False) (noZq w)).mono ?_
  rintro e w1 ⟨gQ, rfl, h1, -⟩
  rw [NK.out] at h1
  have S1 := Lib.hid h1
  clear h1
  go_wp2_with fail
  go_loopg [7, 8, 9, 10] b (fun gg s7 s8 _ _ wx => ∃ i nx : Nat, i + gg = b ∧ s8 = .int .i64 (i : Int) ∧ s7 = .int .i64 (nx : Int) ∧ (i = 0 ∧ nx = 0 ∨ 0 < i ∧ nx + 1 = i + k) ∧ SigT w wx gQ k (rng i (nx - i)) (fun _ => False))
  case atStart => exact ⟨0, 0, by omega, rfl, rfl, .inl ⟨rfl, rfl⟩, S1.out⟩
  case round =>
    obtain ⟨i, nx, hig, rfl, rfl, hnx, h5⟩ := hrel
    have S5 := Lib.hid h5
    have NX := Lib.hid hnx
    clear h5 S1 hnx
    by_cases hlt : i < b
    · have t4 : decide ((i : Int) < (b : Int)) = true := decide_eq_true (by omega)
      obtain ⟨G, hG⟩ : ∃ G, nx + G = i + k := ⟨i + k - nx, by have := NX.out; have := K16.out; omega⟩
      have GG := Lib.hid hG
      have LE := Lib.hid (show i ≤ nx from by have := NX.out; have := K16.out; omega)
      clear hG
      go_wp2_with fail
      go_loopg [7] G (fun gg s7 wx => ∃ x : Nat, x + gg = nx + G ∧ s7 = .int .i64 (x : Int) ∧ i ≤ x ∧ SigT w wx gQ k (rng i (x - i)) (fun _ => False))
      case atStart => exact ⟨nx, by omega, rfl, LE.out, S5.out⟩
      case round =>
        obtain ⟨x, hxg, rfl, hix, h6⟩ := hrel
        have S6 := Lib.hid h6
        have IX := Lib.hid hix
        have XG := Lib.hid (show x ≤ i + k from by have := GG.out; omega)
        clear h6 hix
        have PT := Lib.hid (sg_put S6.out (noZq wr) ⟨0, (x : Int)⟩)
        by_cases hf : x < i + k
        · have hl : (rng i (x - i)).length < k := by rw [rng_length]; have := IX.out; omega
          rw [decide_eq_true hl, putQ_in _ hl, rng_last i (x - i) x (by have := IX.out; omega), show x - i + 1 = x + 1 - i from by have := IX.out; omega] at PT
          have t7 : decide (10000 < (x : Int) + 1) = false := decide_eq_false (by have := K16.out; omega)
          clear hl
          go_wp2_with fail
          refine PT.out.mono ?_
          rintro e w3 ⟨rfl, h4, -, -, -⟩
          have S3 := Lib.hid h4
          clear h4
          go_wp2_with fail
          go_roundg (i + k - (x + 1))
          case measure => have := GG.out; omega
          case rel => exact ⟨x + 1, by have := GG.out; omega, by go_num, by have := IX.out; omega, S3.out⟩
        · have hx : x = i + k := by have := XG.out; omega
          have hl : ¬ (rng i (x - i)).length < k := by rw [rng_length]; omega
          rw [decide_eq_false hl, putQ_out _ hl, show x - i = k1 + 1 from by have := HK.out; omega] at PT
          have HX := Lib.hid hx
          clear hl hx
          go_wp2_with fail
          refine PT.out.mono ?_
          rintro e w3 ⟨rfl, h4, -, -, -⟩
          have S3 := Lib.hid h4
          have TK := Lib.hid (sg_take h4 (noZq w3))
          rw [rng_first, show takeQ (⟨0, (i : Int)⟩ :: rng (i + 1) k1) = .tuple #[.agg #[.int .i64 0, .int .i64 (i : Int)], .bool true] from rfl, show ((⟨0, (i : Int)⟩ : Pl) :: rng (i + 1) k1).tail = rng (i + 1) k1 from rfl] at TK
          clear h4
          go_wp2_with fail
          refine TK.out.mono ?_
          rintro e w7 ⟨rfl, h7, -, -, -⟩
          obtain ⟨W7, hW7⟩ : ∃ W7, W7 = w7.alloc (.cells #[Value.int .i64 0, Value.int .i64 (i : Int)] 29) := ⟨_, rfl⟩
          have S7 := Lib.hid (show SigT w W7 gQ k (rng (i + 1) k1) (fun _ => False) from by rw [hW7]; exact h7.fresh ((Below.refl _ _).alloc (Nat.le_refl _) _))
          have f1 : W7.cell? ⟨w7.heap.size, 1, none⟩ = some (.int .i64 (i : Int)) := by rw [hW7]; exact (Blk.new _ _ _).cell 1
          have e1 : ((i : Int) != (i : Int)) = false := by simp
          have e2 : ((k1 : Int) != (k1 : Int)) = false := by simp
          have LN := Lib.hid (sg_len S7.out)
          rw [rng_length] at LN
          clear h7
          go_wp2_with fail
          rw [← hW7]
          clear hW7
          refine LN.out.mono ?_
          rintro e w8 ⟨rfl, hb⟩
          have S8 := Lib.hid (S7.out.fresh hb)
          clear hb
          go_wp2_with fail
          go_roundg (b - (i + 1))
          case measure => omega
          case rel => exact ⟨i + 1, x, by omega, by go_num, rfl, .inr ⟨by omega, by have := HX.out; omega⟩, by rw [show x - (i + 1) = k1 from by have := HX.out; have := HK.out; omega]; exact S8.out⟩
    · obtain rfl : i = b := by omega
      have t4 : decide ((i : Int) < (i : Int)) = false := decide_eq_false (by omega)
      rcases NX.out with ⟨h0, _⟩ | ⟨h0, hnx⟩
      · have d1 : ((i : Int) == 0) = true := by simp [h0]
        go_wp2_with fail
        refine (sigAnswers_any _).mono ?_
        rintro e w8 ⟨rfl, hb⟩
        have S8 := Lib.hid (S5.out.fresh hb)
        clear hb h0
        go_wp2
        go_ret
        exact ⟨rfl, S8.out.bel⟩
      · have d1 : ((i : Int) == 0) = false := by simp; omega
        have e3 : (i : Int) + (k : Int) - 1 = (nx : Int) := by omega
        have e4 : ((nx : Int) == (nx : Int)) = true := by simp
        clear h0 hnx
        go_wp2_with fail
        refine (sigAnswers_any _).mono ?_
        rintro e w8 ⟨rfl, hb⟩
        have S8 := Lib.hid (S5.out.fresh hb)
        clear hb
        go_wp2
        go_ret
        exact ⟨by simp, S8.out.bel⟩
end Go.Proofs.Ytkdniihnilcpfaa
