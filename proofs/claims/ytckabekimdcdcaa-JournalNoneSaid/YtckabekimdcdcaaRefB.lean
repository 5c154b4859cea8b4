/-
  The contract of the document's own SameAll: whether two lists of lists of bytes are the same; memory stays as it was.
  Conditions: both are read in memory.
-/
import Derived.Test.YtckabekimdcdcaaRefA
namespace Go.Proofs.Ytckabekimdcdcaa
open Go.RowKit
set_option linter.unusedVariables false

set_option maxRecDepth 20000 in
set_option maxHeartbeats 1000000 in
theorem sameAll_any (v v' : Value) (xss yss : List (List Nat)) (w : World) (h : Pts w v xss) (h' : Pts w v' yss) :
    Calls Try.prog 15 #[v, v'] w fun e w' => e = .returned (.bool (decide (xss = yss))) ∧ Drew w w' := by
  have HP := Lib.hid h
  have HP' := Lib.hid h'
  obtain ⟨A, l, c, rfl, hl, hlc, hcm, -⟩ := h
  obtain ⟨A', l', c', rfl, hl', -⟩ := h'
  have HL := Lib.hid hl
  have HL' := Lib.hid hl'
  unfold maxLen at hcm
  clear hl hl'
  by_cases hll : l = l'
  · subst hll
    have d0 : (((l : Nat) : Int) != ((l : Nat) : Int)) = false := by simp
    go_enter Try.func15, Try.ntmps15
    go_wp2
    go_loopw [5] (fun i wr => ∃ k : Nat, k ≤ l ∧ i = .int .i64 k ∧ Drew w wr ∧ ∀ j, j < k → xss.getD j [] = yss.getD j []) (fun i _ => l - (intOf i).toNat)
    case atStart => exact ⟨0, Nat.zero_le _, rfl, ⟨0, rfl⟩, fun j hj => absurd hj (by omega)⟩
    case round =>
      obtain ⟨k, hk, rfl, hd, he⟩ := hrel
      have HE := Lib.hid he
      have HD := Lib.hid hd
      obtain ⟨m, rfl⟩ := hd
      clear he
      by_cases hlt : k < l
      · obtain ⟨b, off, c1, u, e1, -, hcell, hu⟩ := HP.out.get (j := k) (by rw [HL.out]; exact hlt)
        obtain ⟨b', off', c1', u', e1', -, hcell', hu'⟩ := HP'.out.get (j := k) (by rw [HL'.out]; exact hlt)
        injection e1 with e1 _ _
        injection e1' with e1' _ _
        subst e1 e1'
        have HUU := Lib.hid hu
        have HUU' := Lib.hid hu'
        obtain ⟨A2, n2, c2, rfl, -⟩ := hu
        obtain ⟨A2', n2', c2', rfl, -⟩ := hu'
        obtain ⟨T, hT⟩ : ∃ T, T = decide (xss.getD k [] = yss.getD k []) := ⟨_, rfl⟩
        have HT := Lib.hid hT
        have HU := Lib.hid (fun n => same_quiet _ _ _ _ _ _ m n T w HUU.out HUU'.out hT)
        clear hT
        cases T with
        | true =>
          go_wp2
          go_quiet (first | (go_at_call 14; exact HU.out _))
          go_wp2
          go_roundw
          case rel =>
            refine ⟨k + 1, by omega, by go_num, ⟨m + nq, rfl⟩, fun j hj => ?_⟩
            by_cases e : j = k
            · subst e
              exact of_decide_eq_true HT.out.symm
            · exact HE.out j (by omega)
          case measure => simp [intOf]; omega
        | false =>
          go_wp2
          go_quiet (first | (go_at_call 14; exact HU.out _))
          go_wp2
          go_ret
          exact ⟨by rw [decide_eq_false (p := xss = yss) (fun e => of_decide_eq_false HT.out.symm (by rw [e]))]; rfl, m + nq, World.drewN_drewN ..⟩
      · obtain rfl : k = l := by omega
        go_wp2
        go_ret
        exact ⟨by rw [decide_eq_true (lists_of_getD (by rw [HL.out, HL'.out]) (by rw [HL.out]; exact HE.out))]; rfl, HD.out⟩
  · have d0 : (((l : Nat) : Int) != ((l' : Nat) : Int)) = true := by rw [bne_iff_ne]; omega
    go_enter Try.func15, Try.ntmps15
    go_wp2
    go_ret
    exact ⟨by rw [decide_eq_false (fun e => hll (by rw [← HL.out, ← HL'.out, e]))]; rfl, 0, rfl⟩
end Go.Proofs.Ytckabekimdcdcaa
