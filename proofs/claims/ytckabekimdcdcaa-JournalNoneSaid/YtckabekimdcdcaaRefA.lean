/-
  The contract of the document's own Same: whether two lists of bytes are the same; memory stays as it was.
  Conditions: both are read in memory.
-/
import Derived.Test.YtckabekimdcdcaaSame
import Derived.Test.YtckabekimdcdcaaGen
import Derived.Deep.RegionWith
namespace Go.Proofs.Ytckabekimdcdcaa
open Go.RowKit
set_option linter.unusedVariables false

theorem list_of_getD {xs ys : List Nat} (hl : xs.length = ys.length) (h : ∀ j, j < xs.length → xs.getD j 0 = ys.getD j 0) : xs = ys := by
  apply List.ext_getElem hl
  intro j h1 h2
  have := h j h1
  simpa [h1, h2] using this
theorem lists_of_getD {xs ys : List (List Nat)} (hl : xs.length = ys.length) (h : ∀ j, j < xs.length → xs.getD j [] = ys.getD j []) : xs = ys := by
  apply List.ext_getElem hl
  intro j h1 h2
  have := h j h1
  simpa [h1, h2] using this
theorem Bts.drewN {w : World} {B n : Nat} {v : Value} {xs : List Nat} (h : Bts w B v xs) : Bts (w.drewN n) B v xs := h
theorem Drew.trans {a b c : World} (h : Drew a b) (k : Drew b c) : Drew a c := by
  obtain ⟨m, rfl⟩ := h
  obtain ⟨n, rfl⟩ := k
  refine ⟨m + n, ?_⟩
  simp [World.drewN, Nat.add_assoc]
set_option maxRecDepth 20000 in
set_option maxHeartbeats 400000 in
theorem same_any (v v' : Value) (xs ys : List Nat) (B B' : Nat) (w : World) (h : Bts w B v xs) (h' : Bts w B' v' ys) :
    Calls Try.prog 14 #[v, v'] w fun e w' => e = .returned (.bool (decide (xs = ys))) ∧ Drew w w' := by
  obtain ⟨A, l, c, rfl, hl, hm, _, _, hb, hx⟩ := h
  obtain ⟨A', l', c', rfl, hl', hm', _, _, hb', hx'⟩ := h'
  by_cases hll : l = l'
  · subst hll
    unfold maxLen at hm
    have HX := Lib.hid hx
    have HX' := Lib.hid hx'
    have HL := Lib.hid hl
    have HL' := Lib.hid hl'
    clear hl hl' hm' hb hb' hx hx'
    go_enter Try.func14, Try.ntmps14
    go_wp2
    go_loopw [5] (fun i wr => ∃ k m : Nat, k ≤ l ∧ i = .int .i64 k ∧ wr = w.drewN m ∧ ∀ j, j < k → xs.getD j 0 = ys.getD j 0) (fun i _ => l - (intOf i).toNat)
    case atStart => exact ⟨0, 0, Nat.zero_le _, rfl, rfl, fun j hj => absurd hj (by omega)⟩
    case round =>
      obtain ⟨k, m, hk, rfl, rfl, he⟩ := hrel
      have HE := Lib.hid he
      clear he
      by_cases hlt : k < l
      · obtain ⟨b, off, rfl, _, hc⟩ := HX.out (by omega)
        obtain ⟨b', off', rfl, _, hc'⟩ := HX'.out (by omega)
        have hcell := hc k hlt
        have hcell' := hc' k hlt
        obtain ⟨y, hy⟩ : ∃ y, y = xs.getD k 0 := ⟨_, rfl⟩
        obtain ⟨z, hz⟩ : ∃ z, z = ys.getD k 0 := ⟨_, rfl⟩
        rw [← hy] at hcell
        rw [← hz] at hcell'
        have HY := Lib.hid hy
        have HZ := Lib.hid hz
        clear hc hc' hy hz
        by_cases c1 : y = z
        · have d1 : (((y : Nat) : Int) != ((z : Nat) : Int)) = false := by simp [c1]
          go_wp2
          go_quiet (fail)
          go_wp2
          go_roundw
          case rel =>
            refine ⟨k + 1, m + nq, by omega, by go_num, rfl, fun j hj => ?_⟩
            by_cases e : j = k
            · subst e
              rw [← HY.out, ← HZ.out]
              exact c1
            · exact HE.out j (by omega)
          case measure => simp [intOf]; omega
        · have d1 : (((y : Nat) : Int) != ((z : Nat) : Int)) = true := by rw [bne_iff_ne]; omega
          go_wp2
          go_quiet (fail)
          go_wp2
          go_ret
          exact ⟨by rw [decide_eq_false (fun e => c1 (by rw [HY.out, HZ.out, e]))]; rfl, Drew.trans ⟨m, rfl⟩ ⟨nq, rfl⟩⟩
      · obtain rfl : k = l := by omega
        go_wp2
        go_ret
        exact ⟨by rw [decide_eq_true (list_of_getD (by rw [HL.out, HL'.out]) (by rw [HL.out]; exact HE.out))]; rfl, m, rfl⟩
  · refine (same_no_len A A' l c l' c' w hll).mono ?_
    rintro e w' ⟨rfl, rfl⟩
    exact ⟨by rw [decide_eq_false (fun e => hll (by rw [← hl, ← hl', e]))], 0, rfl⟩
theorem same_quiet (v v' : Value) (xs ys : List Nat) (B B' m n : Nat) (T : Bool) (w : World) (h : Bts w B v xs) (h' : Bts w B' v' ys) (hT : T = decide (xs = ys)) :
    Calls Try.prog 14 #[v, v'] (w.drewN (m + n)) fun e w' => e = .returned (.bool T) ∧ ∃ q, w' = w.drewN (m + q) := by
  refine (same_any v v' xs ys B B' _ (Bts.drewN h) (Bts.drewN h')).mono ?_
  rintro e w' ⟨rfl, q, rfl⟩
  exact ⟨by rw [hT], n + q, by rw [World.drewN_drewN, Nat.add_assoc]⟩
end Go.Proofs.Ytckabekimdcdcaa
