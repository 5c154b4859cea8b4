/-
  The contract of the document's Same: whether two lists of bytes are the same.
  Conditions: both are read in memory.
-/
import Derived.Test.YtckabekimdcdcaaProg
import Derived.Test.YtckabekimdcdcaaPlain
import Derived.WalkKit
import Derived.WalkSpells
import Derived.Lib.Hide
import Derived.Deep.QuietTactic
import Derived.BigQuiet
namespace Go.Proofs.Ytckabekimdcdcaa
open Go.RowKit
set_option linter.unusedVariables false

def Drew (w w' : World) : Prop := ∃ m, w' = w.drewN m

set_option maxRecDepth 20000 in
set_option maxHeartbeats 400000 in
theorem same_yes (v v' : Value) (xs : List Nat) (B B' : Nat) (w : World) (h : Bts w B v xs) (h' : Bts w B' v' xs) :
    Calls Try.prog 14 #[v, v'] w fun e w' => e = .returned (.bool true) ∧ Drew w w' := by
  obtain ⟨A, l, c, rfl, hl, hm, _, _, hb, hx⟩ := h
  obtain ⟨A', l', c', rfl, hl', hm', _, _, hb', hx'⟩ := h'
  obtain rfl : l' = l := by omega
  unfold maxLen at hm
  have HX := Lib.hid hx
  have HX' := Lib.hid hx'
  have HB := Lib.hid hb
  clear hl hl' hm' hb hb' hx hx'
  go_enter Try.func14, Try.ntmps14
  go_wp2
  go_loopw [5] (fun i wr => ∃ k m : Nat, k ≤ l' ∧ i = .int .i64 k ∧ wr = w.drewN m) (fun i _ => l' - (intOf i).toNat)
  case atStart => exact ⟨0, 0, Nat.zero_le _, rfl, rfl⟩
  case round =>
    obtain ⟨k, m, hk, rfl, rfl⟩ := hrel
    by_cases hlt : k < l'
    · obtain ⟨b, off, rfl, _, hc⟩ := HX.out (by omega)
      obtain ⟨b', off', rfl, _, hc'⟩ := HX'.out (by omega)
      have hcell := hc k hlt
      have hcell' := hc' k hlt
      obtain ⟨y, hy⟩ : ∃ y, y = xs.getD k 0 := ⟨_, rfl⟩
      rw [← hy] at hcell hcell'
      clear hc hc' hy
      go_wp2
      go_quiet (fail)
      go_wp2
      go_roundw
      case rel => exact ⟨k + 1, m + nq, by omega, by go_num, rfl⟩
      case measure => simp [intOf]; omega
    · obtain rfl : k = l' := by omega
      go_wp2
      go_ret
      exact ⟨rfl, m, rfl⟩
end Go.Proofs.Ytckabekimdcdcaa
