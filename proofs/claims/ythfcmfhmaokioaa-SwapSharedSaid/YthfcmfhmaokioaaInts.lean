/-
  The contract of the document's own Ints: whether two lists of integers are one.
  Conditions: the lists are read in memory.
-/
import Derived.Test.YthfcmfhmaokioaaVals
import Derived.Test.YthfcmfhmaokioaaWrd
import Derived.Deep.LoopGhost
import Derived.BigQuiet
namespace Go.Proofs.Ythfcmfhmaokioaa
open Go.RowKit
set_option linter.unusedVariables false

theorem drew_tr {a b c : World} (h : Drew a b) (k : Drew b c) : Drew a c := by
  obtain ⟨m, rfl⟩ := h
  obtain ⟨n, rfl⟩ := k
  exact ⟨m + n, by simp [World.drewN, Nat.add_assoc]⟩
theorem drew_below {B : Nat} {a b : World} (h : Drew a b) : Below B a b := by
  obtain ⟨m, rfl⟩ := h
  exact below_drewN (Below.refl _ _) m
theorem intsL_of_getD {xs ys : List Int} (hl : xs.length = ys.length) (h : ∀ j, j < xs.length → xs.getD j 0 = ys.getD j 0) : xs = ys := by
  refine List.ext_getElem hl fun j h1 h2 => ?_
  have := h j h1
  simpa [h1, h2] using this
set_option maxRecDepth 20000 in
set_option maxHeartbeats 800000 in
theorem ints_any (v v' : Value) (xs ys : List Int) (B B' : Nat) (w : World) (h : Its w B v xs) (h' : Its w B' v' ys) :
    Calls Try.prog 18 #[v, v'] w fun e w' => e = .returned (.bool (decide (xs = ys))) ∧ Drew w w' := by
  obtain ⟨A, l, c, rfl, hl, hlc, hm, hx⟩ := h
  obtain ⟨A', l', c', rfl, hl', hlc', hm', hx'⟩ := h'
  have HX := Lib.hid hx
  have HX' := Lib.hid hx'
  have HL := Lib.hid hl
  have HL' := Lib.hid hl'
  unfold maxLen at hm
  clear hl hl' hm' hx hx' hlc'
  by_cases hll : l = l'
  · subst hll
    have d0 : ((l : Int) != (l : Int)) = false := by simp
    go_enter Try.func18, Try.ntmps18
    go_wp2
    go_loopw [5] (fun i wr => ∃ k m : Nat, k ≤ l ∧ i = .int .i64 k ∧ wr = w.drewN m ∧ ∀ j, j < k → xs.getD j 0 = ys.getD j 0) (fun i _ => l - (intOf i).toNat)
    case atStart => exact ⟨0, 0, Nat.zero_le _, rfl, rfl, fun j hj => absurd hj (by omega)⟩
    case round =>
      obtain ⟨k, m, hk, rfl, rfl, he⟩ := hrel
      have HE := Lib.hid he
      clear he
      by_cases hlt : k < l
      · obtain ⟨b, off, rfl, _, hc⟩ := HX.out (by omega)
        obtain ⟨b', off', rfl, _, hc'⟩ := HX'.out (by omega)
        have hcell := hc k hlt
        have hcell' := hc' k hlt
        obtain ⟨y, hy⟩ : ∃ y, y = xs.getD k 0 := ⟨_, rfl⟩
        obtain ⟨z, hz⟩ : ∃ z, z = ys.getD k 0 := ⟨_, rfl⟩
        rw [← hy] at hcell
        rw [← hz] at hcell'
        have HY := Lib.hid hy
        have HZ := Lib.hid hz
        clear hc hc' hy hz
        by_cases c1 : y = z
        · have d1 : (y != z) = false := by simp [c1]
          go_wp2
          go_quiet (fail)
          go_wp2
          go_roundw
          case rel =>
            refine ⟨k + 1, m + nq, by omega, by go_num, rfl, fun j hj => ?_⟩
            by_cases e : j = k
            · subst e
              rw [← HY.out, ← HZ.out]
              exact c1
            · exact HE.out j (by omega)
          case measure => simp [intOf]; omega
        · have d1 : (y != z) = true := by rw [bne_iff_ne]; exact c1
          go_wp2
          go_quiet (fail)
          go_wp2
          go_ret
          exact ⟨by rw [decide_eq_false (fun e => c1 (by rw [HY.out, HZ.out, e]))]; rfl, drew_tr ⟨m, rfl⟩ ⟨nq, rfl⟩⟩
      · obtain rfl : k = l := by omega
        go_wp2
        go_ret
        exact ⟨by rw [decide_eq_true (intsL_of_getD (by rw [HL.out, HL'.out]) (by rw [HL.out]; exact HE.out))]; rfl, m, rfl⟩
  · have d0 : ((l : Int) != (l' : Int)) = true := by rw [bne_iff_ne]; omega
    go_enter Try.func18, Try.ntmps18
    go_wp2
    go_ret
    exact ⟨by rw [decide_eq_false (fun e => hll (by rw [← HL.out, ← HL'.out, e]))]; rfl, 0, rfl⟩
end Go.Proofs.Ythfcmfhmaokioaa
