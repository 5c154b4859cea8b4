/-
  Of of the back map over the landed code: who has a frame, sorted.
  Conditions: none beside those that each line bears.
-/
import Derived.Test.YtgbkpcmgfjdhdaaBkT
namespace Go.Proofs.Ytgbkpcmgfjdhdaa
open Go.RowKit Go.Shelf Go.Lib Go.Sort
set_option linter.unusedVariables false

set_option maxHeartbeats 1000000 in
theorem of_via (v : Value) (mo mb : Option Nat) (f : Int) (w : World) (Q : Ending → World → Prop)
    (hA : Calls Try.prog 18 #[v] w fun e w' => e = .returned (.map mo) ∧ w' = w)
    (hL : (Instr.lookup 45 (.map mo) (.int .i64 f) false).run Try.prog w = .ok (.map mb) w)
    (hS : Calls Try.prog 19 #[.map mb] w fun e w' => ∃ u, e = .returned u ∧ Q (.returned u) w') :
    Calls Try.prog 15 #[v, .int .i64 f] w Q := by
  go_enter Try.func15, Try.ntmps15
  go_wp2_with fail
  refine hA.mono ?_
  rintro e w' ⟨rfl, hw⟩
  have hw' := hw.symm
  subst hw'
  clear hw
  go_wp2_with fail
  refine hS.mono ?_
  rintro e w' ⟨u, rfl, hQ⟩
  go_wp2_with fail
  exact hQ
/-- Of a set that is none. -/
theorem sorted_none (w : World) : Calls Try.prog 19 #[.map none] w fun e w' => ∃ u, e = .returned u ∧ Pls w' w'.heap.size u [] ∧ NewV w u ∧ Below w.heap.size w w' := by
  refine (sorted_of none (fun ss => ss = []) 0 (Nat.zero_le _) w (fun ss h => by rw [h]; exact Nat.le_refl _) (keysP_nil w.heap.size _ (by simp) ((Blk.new w 49 #[.map none]).cell 0))).mono ?_
  rintro e w' ⟨u, ss, rfl, rfl, ⟨base, hb, hr⟩, hbel⟩
  rw [show srtd [] = [] from by simp [srtd]] at hr
  exact ⟨u, rfl, Pls.of_own hr rfl, fun a n c e _ => own_new hr hb a n c e, hbel⟩
theorem sorted_some (k : Nat) (l : List Pl) (n : Nat) (w : World) (h : MapK EP w k n (setL l)) (hs : SrtP l) (hl : l.length ≤ 200000) : Calls Try.prog 19 #[.map (some k)] w fun e w' => ∃ u, e = .returned u ∧ Pls w' w'.heap.size u l ∧ NewV w u ∧ Below w.heap.size w w' := by
  obtain ⟨D, d1, d2, d3, d4⟩ := h.tight (srt_nd hs) (fun x => setL_ne.symm)
  have hb0 : Below w.heap.size w (w.alloc (.cells #[.map (some k)] 49)) := belAl (Below.refl _ w) _
  have d1' : (w.alloc (.cells #[.map (some k)] 49)).ownsMap Try.prog 29 selfR k l.length D := by
    have hk := d1.lt
    obtain ⟨es, clock, hb, Ft, hs', hD⟩ := d1
    exact ⟨es, clock, (hb0.block k hk).trans hb, Ft, hs', hD⟩
  refine (sorted_of (some k) (fun ss => AllOf D ss ∧ ss.length ≤ Maps.size D) (Maps.size D) (by omega) w (fun ss h => h.2) (keysP_any (by omega) w.heap.size k l.length D _ (by simp) ((Blk.new w 49 #[.map (some k)]).cell 0) d1')).mono ?_
  rintro e w' ⟨u, ss, rfl, ⟨⟨h1, h2, h3⟩, _⟩, ⟨base, hb, hr⟩, hbel⟩
  have hmem : ∀ q, q ∈ ss ↔ q ∈ l := by
    intro q
    by_cases hq : WPl q
    · rw [h3 q hq, hasK_look d1 EP.K, show lookK D (litP q) = setL l q from d3 q hq, ← setL_ne (l := l)]
      cases setL l q <;> simp
    · constructor
      · exact fun h => absurd (h2 q h) hq
      · exact fun h => absurd (d4 q hq) (setL_ne.2 h)
  have hsl : srtd ss = l := srt_ext (srtd_srt h1) hs fun q => by rw [(srtd_perm ss).mem_iff, hmem q]
  rw [hsl] at hr
  have hlen : l.length = ss.length := by rw [← hsl, (srtd_perm ss).length_eq]
  exact ⟨u, rfl, Pls.of_own hr hlen, fun a n c e _ => own_new hr hb a n c e, hbel⟩
set_option maxRecDepth 20000 in
/-- Of. -/
theorem back_of (gB : Nat) (K : Nat → Prop) (b : BS) (w : World) (f : Int) (h : BackMem w gB K b) (wf : W64 f) :
    Calls Try.prog 15 #[.pointer (some ⟨gB, 0, none⟩), .int .i64 f] w fun e w' => ∃ v, e = .returned v ∧ Pls w' w'.heap.size v (b f) ∧ NewV w v ∧ Below w.heap.size w w' := by
  obtain ⟨mo, h1, h2⟩ := h.at_
  have hA := all_any gB mo w (h1.cell 0)
  cases mo with
  | none =>
    have hL := MapK.nil_look EI w Try.underlying45 (z := .map none) (by rfl) false f wf
    rw [show b f = [] from h2 f]
    exact of_via _ none none f w _ hA hL ((sorted_none w).mono (by rintro e w' ⟨u, rfl, hu⟩; exact ⟨u, rfl, u, rfl, hu⟩))
  | some m =>
    obtain ⟨bk, hI⟩ := h2
    obtain ⟨n, hM⟩ := hI.out
    have hL := hM.run_get Try.underlying45 (z := .map none) (by rfl) f wf
    by_cases c : b f = []
    · rw [show outL b bk f = none from if_pos c] at hL
      rw [c]
      exact of_via _ (some m) none f w _ hA hL ((sorted_none w).mono (by rintro e w' ⟨u, rfl, hu⟩; exact ⟨u, rfl, u, rfl, hu⟩))
    · rw [show outL b bk f = some (.map (some (bk f))) from if_neg c] at hL
      exact of_via _ (some m) (some (bk f)) f w _ hA hL ((sorted_some (bk f) (b f) _ w (hI.tightI h.srt c) (h.srt f) (h.len f)).mono (by rintro e w' ⟨u, rfl, hu⟩; exact ⟨u, rfl, u, rfl, hu⟩))
set_option maxRecDepth 20000 in
theorem back_of_nil (w : World) (f : Int) (wf : W64 f) : Calls Try.prog 15 #[.pointer none, .int .i64 f] w fun e w' => ∃ A c, e = .returned (.slice A 0 c) ∧ Below w.heap.size w w' := by
  have hL := MapK.nil_look EI w Try.underlying45 (z := .map none) (by rfl) false f wf
  refine of_via _ none none f w _ (all_nil w) hL ((sorted_none w).mono ?_)
  rintro e w' ⟨u, rfl, hu, _, hb⟩
  obtain ⟨A, n, c, rfl, hn, _⟩ := hu
  obtain rfl : n = 0 := by rw [← hn]; rfl
  exact ⟨_, rfl, A, c, rfl, hb⟩
theorem back_drop_nil (w : World) (f : Int) (p : Pl) (wf : W64 f) (wp : WPl p) : Calls Try.prog 12 #[.pointer none, .int .i64 f, .agg #[.int .i64 p.c, .int .i64 p.g]] w fun e w' => e = .returned (.bool false) ∧ Below w.heap.size w w' :=
  drop_none _ f p w wf wp (fun W _ => all_nil W)
end Go.Proofs.Ytgbkpcmgfjdhdaa
