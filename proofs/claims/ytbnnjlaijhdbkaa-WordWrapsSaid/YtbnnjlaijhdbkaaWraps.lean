/-
  WordWraps answers true for every number and every count, and writes nothing that was there.
  Conditions: none beside the kinds' own ranges.
-/
import Derived.Test.YtbnnjlaijhdbkaaAnswers
namespace Go.Proofs.Ytbnnjlaijhdbkaa
open Go.RowKit
set_option linter.unusedVariables false

theorem make8 (w : World) : (Instr.makeSlice 22 (.int .i64 8) (.int .i64 8)).run Try.prog w = .ok (.slice (some ⟨w.heap.size, 0, none⟩) 8 8) (w.alloc (.cells #[.int .u8 0, .int .u8 0, .int .u8 0, .int .u8 0, .int .u8 0, .int .u8 0, .int .u8 0, .int .u8 0] 5)) := by kernel_rfl

theorem win_all (xs : List Nat) (n : Nat) (h : xs.length = n) : win xs 0 n = xs := by
  unfold win
  rw [List.drop_zero, List.take_of_length_le (by omega)]
theorem wraps_val (V K : Nat) (h8 : K ≤ 8) : getV (padL V K 8) 0 8 = ((V % 2 ^ (8 * K) : Nat) : Int) := by
  unfold getV
  rw [show Int.toNat 0 = 0 from rfl, show Int.toNat 8 = 8 from rfl, win_all _ 8 (padL_length _ _ _ h8), le_padL]
theorem wrap_pow (K : Nat) (h : K < 8) : IntKind.u64.wrap (2 ^ (8 * K)) = ((2 ^ (8 * K) : Nat) : Int) := by
  have h1 := pow_le56 K h
  have e : (2 : Int) ^ (8 * K) = ((2 ^ (8 * K) : Nat) : Int) := by rw [Int.natCast_pow]; rfl
  rw [e, IntKind.wrap_u64]
  clear e
  generalize 2 ^ (8 * K) = p at h1 ⊢
  omega

set_option maxHeartbeats 400000 in
theorem wraps_any (V K : Nat) (n : Int) (w : World) (hv : V < 18446744073709551616) (h0 : 0 ≤ n) (hn : n % 9 = (K : Int)) :
    Calls Try.prog 7 #[.int .u64 (V : Int), .int .u8 n] w fun e w' => e = .returned (.bool true) ∧ Below w.heap.size w w' := by
  have hk8 : K ≤ 8 := by omega
  obtain ⟨W, hW⟩ : ∃ W, W = w.alloc (.cells #[.int .u8 0, .int .u8 0, .int .u8 0, .int .u8 0, .int .u8 0, .int .u8 0, .int .u8 0, .int .u8 0] 5) := ⟨_, rfl⟩
  have hz : W.heap.size = w.heap.size + 1 := by rw [hW]; simp
  have hb0 : Blk W w.heap.size 5 (Array.replicate 8 (bv 0)) := by rw [hW]; exact Blk.new w _ _
  have hbel : Below w.heap.size w W := by rw [hW]; exact (Below.refl _ _).alloc (Nat.le_refl _) _
  have hput := put_yes w.heap.size 0 8 8 V 5 (Array.replicate 8 (bv 0)) 0 K W (by simp [maxLen]) (by unfold Fit; omega) hb0 (by simp)
  have hval := wraps_val V K hk8
  obtain ⟨G, hG⟩ : ∃ G, G = getV (padL V K 8) 0 8 := ⟨_, rfl⟩
  rw [← hG] at hval
  have hget : ∀ w1, PutPost W w1 w.heap.size 5 (putV (Array.replicate 8 (bv 0)) (0 + Int.toNat 0) V (K : Int).toNat) →
      Below w.heap.size w w1 ∧ Calls Try.prog 9 #[.slice (some ⟨w.heap.size, 0, none⟩) 8 8, .int .i64 0, .int .i64 8] w1 fun e w' => e = .returned (.tuple #[.int .u64 G, .bool true]) ∧ w1 = w' := by
    intro w1 hp
    simp only [Int.toNat_zero, Nat.zero_add, Int.toNat_natCast] at hp
    have hbt : Bts w1 (w.heap.size + 1) (.slice (some ⟨w.heap.size, 0, none⟩) 8 8) (padL V K 8) :=
      Bts.of_blk hp.1 (by omega) (padL_length _ _ _ hk8) (by omega) (by simp [maxLen]) (fun j _ => padL_byte _ _ _ j) (fun j hj => padL_cells _ _ _ hk8 j hj)
    rw [hG]
    exact ⟨hbel.trans (hp.below (Nat.le_refl _) hbel.size), get_yes _ (padL V K 8) _ 0 8 w1 hbt (by unfold Fit; rw [padL_length _ _ _ hk8]; omega)⟩
  rw [hW] at hput hget
  have HP := Lib.hid hput
  have HG := Lib.hid hget
  clear hput hget hbel hW hb0 hz hG
  have hmk := make8
  by_cases hlt : K < 8
  · obtain ⟨P, hP⟩ : ∃ P : Int, P = ((2 ^ (8 * K) : Nat) : Int) := ⟨_, rfl⟩
    have hw := wrap_pow K hlt
    rw [← hP] at hw
    have hp1 : 1 ≤ P := by rw [hP]; have := Nat.two_pow_pos (8 * K); omega
    have he : (G == (V : Int) % P) = true := by rw [hval, hP]; simp
    clear hval hP hv
    go_enter Try.func7, Try.ntmps7
    go_wp2_with fail
    refine HP.out.mono ?_
    rintro e w1 ⟨rfl, hp⟩
    obtain ⟨hb1, hg1⟩ := HG.out w1 hp
    have HB1 := Lib.hid hb1
    have HG1 := Lib.hid hg1
    clear hp hb1 hg1
    go_wp2_with fail
    refine HG1.out.mono ?_
    rintro e w2 ⟨rfl, rfl⟩
    go_wp2_with fail
    refine (answers_any _).mono ?_
    rintro e w3 ⟨rfl, hb3⟩
    have HB3 := Lib.hid (HB1.out.trans (hb3.mono HB1.out.size))
    clear hb3
    go_wp2
    go_ret
    exact ⟨rfl, HB3.out⟩
  · have he : (G == (V : Int)) = true := by
      obtain rfl : K = 8 := by omega
      rw [hval, Nat.mod_eq_of_lt (by omega)]
      simp
    clear hval hv
    have hge : 8 ≤ (K : Int) := by omega
    have hd : decide ((K : Int) < 8) = false := by simp; omega
    go_enter Try.func7, Try.ntmps7
    go_wp2_with fail
    refine HP.out.mono ?_
    rintro e w1 ⟨rfl, hp⟩
    obtain ⟨hb1, hg1⟩ := HG.out w1 hp
    have HB1 := Lib.hid hb1
    have HG1 := Lib.hid hg1
    clear hp hb1 hg1
    go_wp2_with fail
    refine HG1.out.mono ?_
    rintro e w2 ⟨rfl, rfl⟩
    go_wp2_with fail
    refine (answers_any _).mono ?_
    rintro e w3 ⟨rfl, hb3⟩
    have HB3 := Lib.hid (HB1.out.trans (hb3.mono HB1.out.size))
    clear hb3
    go_wp2
    go_ret
    exact ⟨rfl, HB3.out⟩
end Go.Proofs.Ytbnnjlaijhdbkaa
