/-
  The contracts of the library's IndexFunc and ContainsFunc on integers, whatever the predicate may lay down.
  Conditions: the lists are read in memory; the predicate answers the same in any world in which nothing that was there has turned.
-/
import Derived.Test.YtfnegbcpiejdaabVals
import Derived.Test.YtfnegbcpiejdaabProg
import Derived.Deep.LoopGhost
import Derived.BigQuiet
import Derived.Shelf.Abstract
import Derived.Lib.SliceRun
namespace Go.Proofs.Ytfnegbcpiejdaab
open Go.RowKit
set_option linter.unusedVariables false

/-! ### a predicate -/
/-- Function g, with what it has captured, answers p, and nothing that is there turns, in any world in which all below B is as in w. -/
def PredB (g : Nat) (lb : Array Value) (p : Int → Bool) (xs : List Int) (B : Nat) (w : World) : Prop :=
  ∀ W x, x ∈ xs → Below B w W → w.heap.size ≤ W.heap.size → Calls Try.prog g (#[.int .i64 x] ++ lb) W fun e w' => e = .returned (.bool (p x)) ∧ Below W.heap.size W w'
theorem PredB.later {g : Nat} {lb : Array Value} {p : Int → Bool} {xs : List Int} {B : Nat} {w W : World} (h : PredB g lb p xs B w) (hb : Below B w W) (hs : w.heap.size ≤ W.heap.size) : PredB g lb p xs B W :=
  fun W' x hx hb' hs' => h W' x hx (hb.trans hb') (by omega)
theorem getD_mem {xs : List Int} {k : Nat} (h : k < xs.length) : xs.getD k 0 ∈ xs := by
  have e : xs.getD k 0 = xs[k] := by simp [h]
  rw [e]
  exact List.getElem_mem _
/-- The first place at which p holds, or -1. -/
def IdxOf (p : Int → Bool) (xs : List Int) (z : Int) : Prop :=
  (z = -1 ∧ ∀ j, j < xs.length → p (xs.getD j 0) = false) ∨ ∃ k : Nat, k < xs.length ∧ z = (k : Int) ∧ p (xs.getD k 0) = true ∧ ∀ j, j < k → p (xs.getD j 0) = false
set_option maxRecDepth 20000 in
set_option maxHeartbeats 800000 in
theorem indexFunc_any (g : Nat) (lb : Array Value) (p : Int → Bool) (eg : ∀ args w, (callFunc g args).run Try.prog w = .ok (.enter g args) w) (v : Value) (xs : List Int) (w : World) (h : Its w w.heap.size v xs) (hp : PredB g lb p xs w.heap.size w) :
    Calls Try.prog 66 #[v, .func (.func g) #[] lb] w fun e w' => ∃ z, e = .returned (.int .i64 z) ∧ IdxOf p xs z ∧ Below w.heap.size w w' := by
  obtain ⟨A, n, c, rfl, hl, hlc, hm, hx⟩ := id h
  have HH := Lib.hid h
  have HL := Lib.hid hl
  have HP := Lib.hid hp
  unfold maxLen at hm
  clear h hl hx hp
  go_enter Try.func66, Try.ntmps66
  go_wp2
  go_loopg [5, 8] n (fun gg _ s8 wr => ∃ kk : Nat, kk + gg = n ∧ s8 = .int .i64 kk ∧ Below w.heap.size w wr ∧ ∀ j, j < kk → p (xs.getD j 0) = false)
  case atStart => exact ⟨0, by omega, rfl, Below.refl _ _, fun j hj => absurd hj (by omega)⟩
  case round =>
    obtain ⟨kk, hkk, rfl, hb, ha⟩ := hrel
    have HB := Lib.hid hb
    have HA := Lib.hid ha
    have hkw : Its wr w.heap.size (.slice A n c) xs := HH.out.below hb
    obtain ⟨_, _, _, e, _, _, _, hx⟩ := hkw
    injection e with e1 e2 e3
    subst e1 e2 e3
    clear hb ha
    by_cases hlt : kk < n
    · obtain ⟨b, off, rfl, _, hc⟩ := hx (by omega)
      have hcell := hc kk hlt
      obtain ⟨y, hy⟩ : ∃ y, y = xs.getD kk 0 := ⟨_, rfl⟩
      rw [← hy] at hcell
      have HY := Lib.hid hy
      have HC := Lib.hid (HP.out wr y (by rw [hy]; exact getD_mem (by rw [HL.out]; exact hlt)) HB.out HB.out.size)
      clear hx hc hy
      cases hq : p y with
      | true =>
        rw [hq] at HC
        have HQ := Lib.hid hq
        clear hq
        go_wp2_with fail
        refine HC.out.mono ?_
        rintro e w' ⟨rfl, hb'⟩
        go_wp2
        go_ret
        exact ⟨_, rfl, .inr ⟨kk, by rw [HL.out]; exact hlt, rfl, by rw [← HY.out]; exact HQ.out, HA.out⟩, HB.out.trans (hb'.mono HB.out.size)⟩
      | false =>
        rw [hq] at HC
        have HQ := Lib.hid hq
        clear hq
        go_wp2_with fail
        refine HC.out.mono ?_
        rintro e w' ⟨rfl, hb'⟩
        have HB' := Lib.hid hb'
        clear hb'
        go_wp2
        go_roundg (n - (kk + 1))
        case measure => omega
        case rel =>
          refine ⟨kk + 1, by omega, by go_num, HB.out.trans (HB'.out.mono HB.out.size), fun j hj => ?_⟩
          by_cases e : j = kk
          · subst e
            rw [← HY.out]
            exact HQ.out
          · exact HA.out j (by omega)
    · obtain rfl : kk = n := by omega
      clear hx
      go_wp2
      go_ret
      exact ⟨_, rfl, .inl ⟨rfl, by rw [HL.out]; exact HA.out⟩, HB.out⟩
theorem IdxOf.any {p : Int → Bool} {xs : List Int} {z : Int} (h : IdxOf p xs z) : decide (0 ≤ z) = xs.any p := by
  rcases h with ⟨rfl, h⟩ | ⟨k, hk, rfl, hp, _⟩
  · rw [decide_eq_false (by omega)]
    refine (List.any_eq_false.2 fun x hx => ?_).symm
    obtain ⟨j, hj, rfl⟩ := List.getElem_of_mem hx
    have := h j hj
    simp only [List.getD_eq_getElem?_getD, List.getElem?_eq_getElem hj, Option.getD_some] at this
    simp [this]
  · rw [decide_eq_true (by omega)]
    refine (List.any_eq_true.2 ⟨_, List.getElem_mem hk, ?_⟩).symm
    simpa [hk] using hp
set_option maxRecDepth 20000 in
set_option maxHeartbeats 800000 in
theorem containsFunc_any (g : Nat) (lb : Array Value) (p : Int → Bool) (eg : ∀ args w, (callFunc g args).run Try.prog w = .ok (.enter g args) w) (v : Value) (xs : List Int) (w : World) (h : Its w w.heap.size v xs) (hp : PredB g lb p xs w.heap.size w) :
    Calls Try.prog 47 #[v, .func (.func g) #[] lb] w fun e w' => e = .returned (.bool (xs.any p)) ∧ Below w.heap.size w w' := by
  have HI := Lib.hid (indexFunc_any g lb p eg v xs w h hp)
  obtain ⟨A, n, c, rfl, -⟩ := id h
  clear h hp
  go_enter Try.func47, Try.ntmps47
  go_wp2_with fail
  refine HI.out.mono ?_
  rintro e w' ⟨z, rfl, hz, hb⟩
  have HZ := Lib.hid hz.any
  have HB := Lib.hid hb
  clear hz hb
  go_wp2
  go_ret
  exact ⟨by rw [← HZ.out]; rfl, HB.out⟩

end Go.Proofs.Ytfnegbcpiejdaab
