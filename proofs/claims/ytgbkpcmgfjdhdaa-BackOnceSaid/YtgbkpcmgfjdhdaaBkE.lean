/-
  How places are held against each other: cmp.Or of two, the function that sorts them.
  Conditions: none beside those that each line bears.
-/
import Derived.Test.YtgbkpcmgfjdhdaaBkD
import Derived.Test.YtgbkpcmgfjdhdaaFunc
import Derived.StillTailTactics
import Derived.LoopN
namespace Go.Proofs.Ytgbkpcmgfjdhdaa
open Go.RowKit Go.Shelf Go.Lib Go.Sort
set_option linter.unusedVariables false

/-- The first one of two that is not zero. -/
def orI (x y : Int) : Int := if x = 0 then y else x
set_option maxRecDepth 20000 in
set_option maxHeartbeats 1000000 in
theorem or_any (b : Nat) (x y : Int) (W : World) (hx : W.cell? ⟨b, 0, none⟩ = some (.int .i64 x)) (hy : W.cell? ⟨b, 1, none⟩ = some (.int .i64 y)) :
    Calls Try.prog 26 #[.slice (some ⟨b, 0, none⟩) 2 2] W fun e w' => e = .returned (.int .i64 (orI x y)) ∧ w' = W := by
  unfold orI
  by_cases c : x = 0
  · subst c
    rw [if_pos rfl]
    by_cases c2 : y = 0
    · subst c2
      go_enter Try.func26, Try.ntmps26
      go_wp2
      refine wp_loop_rounds 3 ?_
      rw [rounds_succ]
      go_wp2
      rw [rounds_succ]
      go_wp2
      rw [rounds_succ]
      go_wp2
      go_ret
      exact ⟨rfl, rfl⟩
    · have t : (y != 0) = true := by simpa using c2
      go_enter Try.func26, Try.ntmps26
      go_wp2
      refine wp_loop_rounds 3 ?_
      rw [rounds_succ]
      go_wp2
      rw [rounds_succ]
      go_wp2
      go_ret
      exact ⟨rfl, rfl⟩
  · rw [if_neg c]
    have t : (x != 0) = true := by simpa using c
    go_enter Try.func26, Try.ntmps26
    go_wp2
    refine wp_loop_rounds 3 ?_
    rw [rounds_succ]
    go_wp2
    go_ret
    exact ⟨rfl, rfl⟩
/-- How two places are held against each other. -/
def cmpP (p q : Pl) : Int := orI (Lib.compareInt p.c q.c) (Lib.compareInt p.g q.g)
theorem cmpP_lt (p q : Pl) : ltOf cmpP p q = decide (ltP p q) := by
  unfold ltOf cmpP orI ltP Lib.compareInt
  by_cases h1 : p.c < q.c
  · simp [h1]
  · by_cases h2 : q.c < p.c
    · simp [h1, h2]; omega
    · have e : p.c = q.c := by omega
      by_cases h3 : p.g < q.g
      · simp [h1, h2, h3, e]
      · by_cases h4 : q.g < p.g <;> simp [h1, h2, h3, h4, e]
theorem cmpP_swo : SWO (ltOf cmpP) where
  irrefl x := by rw [cmpP_lt]; exact decide_eq_false (ltP.irr x)
  trans x y z h1 h2 := by
    rw [cmpP_lt] at *
    exact decide_eq_true ((of_decide_eq_true h1).trans (of_decide_eq_true h2))
  ntrans x y z h1 h2 := by
    rw [cmpP_lt] at *
    have a := of_decide_eq_false h1
    have b := of_decide_eq_false h2
    refine decide_eq_false fun c => ?_
    by_cases e : x = y
    · subst e; exact b c
    · exact b ((ltP.tri a e).trans c)
set_option maxRecDepth 20000 in
set_option maxHeartbeats 1000000 in
theorem closureP (p q : Pl) (W : World) : Calls Try.prog 25 #[.agg #[.int .i64 p.c, .int .i64 p.g], .agg #[.int .i64 q.c, .int .i64 q.g]] W fun e w' => e = .returned (.int .i64 (cmpP p q)) ∧ ∃ n os', w' = Sort.grow (W.drewN n) os' := by
  have hcon : ∀ x y W', Calls Try.prog 27 #[.int .i64 x, .int .i64 y] W' fun e w' => e = .returned (.int .i64 (Lib.compareInt x y)) ∧ w' = W' := fun x y W' => AnyG.cmp_Compare_int Try.cmpF27 x y W'
  unfold cmpP
  generalize h1 : Lib.compareInt p.c q.c = r1
  generalize h2 : Lib.compareInt p.g q.g = r2
  have c1 := fun W' => hcon p.c q.c W'
  have c2 := fun W' => hcon p.g q.g W'
  rw [h1] at c1
  rw [h2] at c2
  clear hcon h1 h2
  obtain ⟨W2, hW2⟩ : ∃ W2, (W.alloc (.cells #[.int .i64 p.c, .int .i64 p.g] 29)).alloc (.cells #[.int .i64 q.c, .int .i64 q.g] 29) = W2 := ⟨_, rfl⟩
  have hp : Blk W2 W.heap.size 29 #[.int .i64 p.c, .int .i64 p.g] := by rw [← hW2]; exact (Blk.new W _ _).al _
  have hq : Blk W2 (W.heap.size + 1) 29 #[.int .i64 q.c, .int .i64 q.g] := by rw [← hW2]; exact Blk.new1 W _ _ _
  have k1 : W2.cell? ⟨W.heap.size, 0, none⟩ = some (.int .i64 p.c) := hp.cell 0
  have k2 : W2.cell? ⟨W.heap.size, 1, none⟩ = some (.int .i64 p.g) := hp.cell 1
  have k3 : W2.cell? ⟨W.heap.size + 1, 0, none⟩ = some (.int .i64 q.c) := hq.cell 0
  have k4 : W2.cell? ⟨W.heap.size + 1, 1, none⟩ = some (.int .i64 q.g) := hq.cell 1
  obtain ⟨W3, hW3⟩ : ∃ W3, W2.drew.alloc (.cells #[.int .i64 r1, .int .i64 r2] 3) = W3 := ⟨_, rfl⟩
  have hr : Blk W3 W2.heap.size 3 #[.int .i64 r1, .int .i64 r2] := by rw [← hW3]; exact Blk.new W2.drew _ _
  have HO := Lib.hid (or_any W2.heap.size r1 r2 W3 (hr.cell 0) (hr.cell 1))
  have HP := Lib.hid (show ∃ n os', W3 = Sort.grow (W.drewN n) os' from by
    refine ⟨1, #[.cells #[.int .i64 p.c, .int .i64 p.g] 29 (0, 0)] ++ #[.cells #[.int .i64 q.c, .int .i64 q.g] 29 (0, 0)] ++ #[.cells #[.int .i64 r1, .int .i64 r2] 3 (0, 0)], ?_⟩
    rw [← hW3, ← hW2, ← grow_grow, ← grow_grow, ← alloc_eq_grow, ← alloc_eq_grow, ← alloc_eq_grow]
    rfl)
  clear hp hq hr
  go_enter Try.func25, Try.ntmps25
  go_wp2_with fail
  go_still_tail 10, (by kernel_rfl)
  still_call (c1 _)
  repeat still_step
  still_call (c2 _)
  repeat still_step
  try refine wpStill_nil ?_
  change wpList _ _ _ _ _ W2.drew
  go_wp2_with fail
  refine HO.out.mono ?_
  rintro e w' ⟨rfl, rfl⟩
  go_wp2_with fail
  go_ret
  exact ⟨rfl, HP.out⟩
instance : Inhabited Pl := ⟨pl0⟩
def encL (p : Pl) : List Value := [.int .i64 p.c, .int .i64 p.g]
theorem cmpLaysP (blk off size : Nat) (w : World) : CmpLays Try.prog 25 #[] encL 2 cmpP blk off size w :=
  fun _ _ _ _ x y => closureP x y _
end Go.Proofs.Ytgbkpcmgfjdhdaa
