/-
  The contracts of slot's headOf, number and empty: the sector of a gen's head; a number that stands in a sector; whether all bytes are 0. Nothing is changed.
  Conditions: the bytes are read in memory.
-/
import Derived.Test.YtckabekimdcdcaaGet
import Derived.Test.YtckabekimdcdcaaSloB
namespace Go.Proofs.Ytckabekimdcdcaa
open Go.RowKit
set_option linter.unusedVariables false

theorem ret_i64_ {a b : Int} (h : a = b) : Ending.returned (.int .i64 a) = .returned (.int .i64 b) := by rw [h]
set_option maxHeartbeats 400000 in
theorem headOf_any (g : Nat) (w : World) (hg : g < 4294967296) :
    Calls Try.prog 34 #[.int .u32 (g : Int)] w fun e w' => e = .returned (.int .i64 ((64 + 16 * (g % 2) : Nat) : Int)) ∧ w = w' := by
  obtain ⟨r, hr, hr2⟩ : ∃ r : Nat, r = g % 2 ∧ r < 2 := ⟨g % 2, rfl, by omega⟩
  have h1 : (g : Int) % 2 = (r : Int) := by omega
  have h2 : (16 : Int) * (r : Int) + 64 = ((64 + 16 * r : Nat) : Int) := by omega
  rw [← hr]
  clear hr
  go_enter Try.func34, Try.ntmps34
  go_wp2
  go_ret
  exact ⟨ret_i64_ (by omega), rfl⟩

theorem ret_u32_ {a b : Int} (h : a = b) : Ending.returned (.int .u32 a) = .returned (.int .u32 b) := by rw [h]
set_option maxHeartbeats 400000 in
theorem snumber_any (v : Value) (xs : List Nat) (B a : Nat) (w : World) (h : Bts w B v xs) (ha : a + 4 ≤ xs.length) (hb : ∀ y ∈ xs, y < 256) :
    Calls Try.prog 46 #[v, .int .i64 (a : Int)] w fun e w' => e = .returned (.int .u32 ((le (win xs a 4) : Nat) : Int)) ∧ w = w' := by
  have HG := Lib.hid (get_yes v xs B (a : Int) 4 w h ⟨by omega, by omega, by omega, by omega⟩)
  have hx := le_lt (win xs a 4) (fun y hy => hb y (List.mem_of_mem_drop (List.mem_of_mem_take hy)))
  rw [win_length xs a 4 ha] at hx
  have hy : getV xs (a : Int) 4 = ((le (win xs a 4) : Nat) : Int) := by unfold getV; simp
  rw [hy] at HG
  obtain ⟨x, hxe⟩ : ∃ x, x = le (win xs a 4) := ⟨_, rfl⟩
  rw [← hxe] at HG hx ⊢
  have hx2 : x < 4294967296 := by omega
  have c1 : IntKind.u32.wrap (x : Int) = (x : Int) := by rw [IntKind.wrap_u32]; omega
  clear hxe hy hx h
  go_enter Try.func46, Try.ntmps46
  go_wp2_with fail
  refine HG.out.mono ?_
  rintro e w1 ⟨rfl, rfl⟩
  go_wp2
  go_ret
  exact ⟨rfl, rfl⟩

/-- Whether all are 0. -/
def allZ (xs : List Nat) : Bool := decide (∀ y ∈ xs, y = 0)
set_option maxHeartbeats 400000 in
theorem empty_any (v : Value) (xs : List Nat) (B : Nat) (w : World) (h : Bts w B v xs) :
    Calls Try.prog 47 #[v] w fun e w' => e = .returned (.bool (allZ xs)) ∧ w = w' := by
  have HBY := Lib.hid h.byte
  obtain ⟨A, n, c, rfl, hl, hm, _, _, hb, hx⟩ := h
  unfold maxLen at hm
  have HL := Lib.hid hl
  clear hl
  have HX := Lib.hid hx
  clear hx hb
  go_enter Try.func47, Try.ntmps47
  go_wp2
  go_loop [7] (fun i => ∃ k : Nat, k ≤ n ∧ i = .int .i64 k ∧ ∀ j, j < k → xs.getD j 0 = 0) (fun i => n - (intOf i).toNat)
  case atStart => exact ⟨0, Nat.zero_le _, rfl, fun j hj => absurd hj (by omega)⟩
  case round =>
    obtain ⟨k, hk, rfl, hz⟩ := hrel
    have HZ := Lib.hid hz
    clear hz
    by_cases hlt : k < n
    · obtain ⟨b, off, rfl, _, hc⟩ := HX.out (by omega)
      have hcell := hc k hlt
      obtain ⟨y, hy⟩ : ∃ y, y = xs.getD k 0 := ⟨_, rfl⟩
      rw [← hy] at hcell
      have HY := Lib.hid hy
      clear hy hc
      by_cases hy0 : y = 0
      · have t1 : ((y : Int) != 0) = false := by simp [hy0]
        have t2 : ((y : Int) == 0) = true := by simp [hy0]
        have HY0 := Lib.hid hy0
        clear hy0
        go_wp2
        go_round
        case rel =>
          refine ⟨k + 1, by omega, by go_num, fun j hj => ?_⟩
          by_cases e : j = k
          · subst e
            rw [← HY.out, HY0.out]
          · exact HZ.out j (by omega)
        case measure => simp [intOf]; omega
      · have t1 : ((y : Int) != 0) = true := by simp; omega
        have t2 : ((y : Int) == 0) = false := by simp; omega
        have HY0 := Lib.hid hy0
        clear hy0
        have HE := Lib.hid (show allZ xs = false from decide_eq_false (fun h => HY0.out (by
          rw [HY.out]
          simp only [List.getD_eq_getElem?_getD, List.getElem?_eq_getElem (show k < xs.length by rw [HL.out]; omega), Option.getD_some]
          exact h _ (List.getElem_mem _))))
        go_wp2
        go_ret
        exact ⟨by rw [HE.out]; rfl, rfl⟩
    · obtain rfl : k = n := by omega
      have HE := Lib.hid (show allZ xs = true from decide_eq_true (fun y hy => by
        obtain ⟨j, hj, rfl⟩ := List.getElem_of_mem hy
        have := HZ.out j (by rw [← HL.out]; exact hj)
        simpa [List.getD_eq_getElem?_getD, List.getElem?_eq_getElem hj] using this))
      go_wp2
      go_ret
      exact ⟨by rw [HE.out]; rfl, rfl⟩
end Go.Proofs.Ytckabekimdcdcaa
