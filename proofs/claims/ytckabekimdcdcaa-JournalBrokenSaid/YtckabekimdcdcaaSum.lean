/-
  The contracts of word.Sum and of the document's own Sum: both answer the sum of all bytes, one behind the other, and change nothing.
  Conditions: the parts are read in memory.
-/
import Derived.Test.YtckabekimdcdcaaProg
import Derived.Test.YtckabekimdcdcaaPlain
import Derived.WalkKit
import Derived.WalkSpells
import Derived.Lib.Hide
namespace Go.Proofs.Ytckabekimdcdcaa
open Go.RowKit

theorem ret_u32 {a b : Int} (h : a = b) : Ending.returned (.int .u32 a) = .returned (.int .u32 b) := by rw [h]

theorem sum_step (xs : List Nat) (k : Nat) (hk : k < xs.length) (hb : xs.getD k 0 < 256) :
    IntKind.u64.wrap (bits .xor .u64 (sumI (xs.take k)) ((xs[k]?.getD 0 : Nat) : Int) * 1099511628211) = sumI (xs.take (k + 1)) := by
  have e : xs.take (k + 1) = xs.take k ++ [xs.getD k 0] := by
    rw [List.take_succ_eq_append_getElem hk]
    simp [hk]
  rw [e]
  simp only [List.getD_eq_getElem?_getD] at hb ⊢
  exact sumI_snoc _ _ hb

set_option maxRecDepth 20000 in
set_option maxHeartbeats 400000 in
theorem refSum_any (v : Value) (xs : List Nat) (B : Nat) (w : World) (h : Bts w B v xs) :
    Calls Try.prog 45 #[v] w fun e w' => e = .returned (.int .u32 (sumU xs)) ∧ w = w' := by
  obtain ⟨A, n, c, rfl, hl, hm, _, _, hb, hx⟩ := h
  unfold maxLen at hm
  have HL := Lib.hid hl
  clear hl
  have HB := Lib.hid hb
  clear hb
  have HX := Lib.hid hx
  clear hx
  have HS := Lib.hid sumI_nil
  go_enter Try.func45, Try.ntmps45
  go_wp2
  go_loop [3, 4] (fun s i => ∃ k : Nat, k ≤ n ∧ i = .int .i64 k ∧ s = .int .u64 (sumI (xs.take k))) (fun _ i => n - (intOf i).toNat)
  case atStart => exact ⟨0, Nat.zero_le _, rfl, by rw [List.take_zero, HS.out]⟩
  case round =>
    obtain ⟨k, hk, rfl, rfl⟩ := hrel
    have h0 : 0 ≤ sumI (xs.take k) := sumI_nonneg _
    by_cases hlt : k < n
    · obtain ⟨b, off, rfl, _, hc⟩ := HX.out (by omega)
      have hcell := hc k hlt
      have hbb : (0 : Int) ≤ ((xs[k]?.getD 0 : Nat) : Int) ∧ ((xs[k]?.getD 0 : Nat) : Int) < 256 := by
        have := HB.out k hlt
        simp only [List.getD_eq_getElem?_getD] at this
        omega
      obtain ⟨hb0, hb1⟩ := hbb
      have HC := Lib.hid hc
      clear hc
      go_wp2
      go_round
      case rel => exact ⟨k + 1, by omega, by go_num, by rw [sum_step xs k (by rw [HL.out]; exact hlt) (HB.out k hlt)]⟩
      case measure => simp [intOf]; omega
    · go_wp2
      go_ret
      obtain rfl : k = n := by omega
      refine ⟨ret_u32 ?_, rfl⟩
      rw [List.take_of_length_le (by rw [HL.out]; omega), sum_high]
      rfl

/-- A slice of slices of bytes. -/
def Parts (w : World) (B : Nat) (v : Value) (xss : List (List Nat)) : Prop :=
  ∃ A n c, v = .slice A n c ∧ xss.length = n ∧ n ≤ maxLen ∧
    (0 < n → ∃ b off, A = some ⟨b, off, none⟩ ∧ ∀ j, j < n → ∃ u, w.cell? ⟨b, off + j, none⟩ = some u ∧ Bts w B u (xss.getD j []))

theorem sum_step2 (ps xs : List Nat) (k : Nat) (hk : k < xs.length) (hb : xs.getD k 0 < 256) :
    IntKind.u64.wrap (bits .xor .u64 (sumI (ps ++ xs.take k)) ((xs[k]?.getD 0 : Nat) : Int) * 1099511628211) = sumI (ps ++ xs.take (k + 1)) := by
  have e : xs.take (k + 1) = xs.take k ++ [xs.getD k 0] := by
    rw [List.take_succ_eq_append_getElem hk]
    simp [hk]
  rw [e, ← List.append_assoc]
  simp only [List.getD_eq_getElem?_getD] at hb ⊢
  exact sumI_snoc _ _ hb
theorem flat_step (xss : List (List Nat)) (k : Nat) (hk : k < xss.length) : (xss.take (k + 1)).flatten = (xss.take k).flatten ++ xss.getD k [] := by
  have e : xss.getD k [] = xss[k] := by simp [hk]
  rw [List.take_succ_eq_append_getElem hk, List.flatten_append, e]
  simp only [List.flatten_cons, List.flatten_nil, List.append_nil]

set_option maxRecDepth 20000 in
set_option maxHeartbeats 400000 in
theorem sum_any (v : Value) (xss : List (List Nat)) (B : Nat) (w : World) (h : Parts w B v xss) :
    Calls Try.prog 49 #[v] w fun e w' => e = .returned (.int .u32 (sumU xss.flatten)) ∧ w = w' := by
  obtain ⟨A, n, c, rfl, hl, hm, hx⟩ := h
  unfold maxLen at hm
  have HL := Lib.hid hl
  clear hl
  have HX := Lib.hid hx
  clear hx
  have HS := Lib.hid sumI_nil
  go_enter Try.func49, Try.ntmps49
  go_wp2
  go_loop [3, 10] (fun s i => ∃ k : Nat, k ≤ n ∧ i = .int .i64 k ∧ s = .int .u64 (sumI (xss.take k).flatten)) (fun _ i => n - (intOf i).toNat)
  case atStart => exact ⟨0, Nat.zero_le _, rfl, by rw [List.take_zero, List.flatten_nil, HS.out]⟩
  case round =>
    obtain ⟨k, hk, rfl, rfl⟩ := hrel
    obtain ⟨ps, hps⟩ : ∃ ps, ps = (xss.take k).flatten := ⟨_, rfl⟩
    rw [← hps]
    have HP := Lib.hid hps
    clear hps
    have h0 : 0 ≤ sumI ps := sumI_nonneg _
    by_cases hlt : k < n
    · obtain ⟨b, off, rfl, hc⟩ := HX.out (by omega)
      obtain ⟨u, hcell, hu⟩ := hc k hlt
      obtain ⟨A', n', c', rfl, hl', hm', _, _, hb', hx'⟩ := hu
      unfold maxLen at hm'
      obtain ⟨ys, hys⟩ : ∃ ys, ys = xss.getD k [] := ⟨_, rfl⟩
      rw [← hys] at hl' hb' hx'
      have HY := Lib.hid hys
      clear hys
      have HL' := Lib.hid hl'
      clear hl'
      have HB' := Lib.hid hb'
      clear hb'
      have HX' := Lib.hid hx'
      clear hx'
      have HC := Lib.hid hc
      clear hc
      go_wp2
      go_loop [3, 16] (fun s i => ∃ j : Nat, j ≤ n' ∧ i = .int .i64 j ∧ s = .int .u64 (sumI (ps ++ ys.take j))) (fun _ i => n' - (intOf i).toNat)
      case atStart => exact ⟨0, Nat.zero_le _, rfl, by rw [List.take_zero, List.append_nil]⟩
      case round =>
        obtain ⟨j, hj, rfl, rfl⟩ := hrel
        have h1 : 0 ≤ sumI (ps ++ ys.take j) := sumI_nonneg _
        by_cases hlt' : j < n'
        · obtain ⟨b', off', rfl, _, hc'⟩ := HX'.out (by omega)
          have hcell' := hc' j hlt'
          have hbb : (0 : Int) ≤ ((ys[j]?.getD 0 : Nat) : Int) ∧ ((ys[j]?.getD 0 : Nat) : Int) < 256 := by
            have := HB'.out j hlt'
            simp only [List.getD_eq_getElem?_getD] at this
            omega
          obtain ⟨hb0, hb1⟩ := hbb
          have HC' := Lib.hid hc'
          clear hc'
          go_wp2
          go_round
          case rel => exact ⟨j + 1, by omega, by go_num, by rw [sum_step2 ps ys j (by rw [HL'.out]; exact hlt') (HB'.out j hlt')]⟩
          case measure => simp [intOf]; omega
        · have HE := Lib.hid (show ps ++ ys.take j = (xss.take (k + 1)).flatten by
            rw [flat_step xss k (by rw [HL.out]; exact hlt), ← HP.out, ← HY.out, List.take_of_length_le (by rw [HL'.out]; omega)])
          go_wp2
          go_round
          case rel => exact ⟨k + 1, by omega, by go_num, by rw [HE.out]⟩
          case measure => simp [intOf]; omega
    · have HE := Lib.hid (show ps = xss.flatten by rw [HP.out, List.take_of_length_le (by rw [HL.out]; omega)])
      have h2 := sumI_lt ps
      go_wp2
      go_ret
      refine ⟨ret_u32 ?_, rfl⟩
      rw [HE.out]
      rfl
end Go.Proofs.Ytckabekimdcdcaa
