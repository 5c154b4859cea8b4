/-
  Of over the landed code: who holds a slot, sorted.
  Conditions: none beside those that each line bears.
-/
import Derived.Test.YthfcmfhmaokioaaSwE
import Derived.Test.YthfcmfhmaokioaaSpT
namespace Go.Proofs.Ythfcmfhmaokioaa
open Go.RowKit Go.Shelf Go.Lib Go.Sort
set_option linter.unusedVariables false

set_option maxRecDepth 100000 in
set_option maxHeartbeats 2000000 in
/-- Of, whatever the keys are. -/
theorem of_via (gS j : Nat) (x : Option Nat) (S : List Pl → Prop) (N : Nat) (hN : N ≤ 1000000) (w : World) (hj : j < 32) (c1 : w.cell? ⟨gS, j, none⟩ = some (.map x)) (hSN : ∀ ss, S ss → ss.length ≤ N)
    (hseq : SeqStopsK Fence.wide 4 Try.prog 33 #[.pointer (some ⟨w.heap.size, 0, none⟩)] (fun p => #[encP p]) KeepsWalks S (fun _ => True) N (w.alloc (.cells #[.map x] 49))) :
    Calls Try.prog 15 #[.pointer (some ⟨gS, 0, none⟩), .int .i64 (j : Int)] w fun e w' => ∃ (v : Value) (ss : List Pl), e = .returned v ∧ S ss ∧ (∃ base, w.heap.size ≤ base ∧ w'.ownsRow base 29 2 v ss.length (flatP (srtd ss))) ∧ Below w.heap.size w w' := by
  refine (callsIn_wide (n := 8)).1 ?_
  have cH := callsIn_wide (n := 7).2 (has_any gS (j : Int) w)
  rw [show decide (isSlot (j : Int)) = true from decide_eq_true ⟨by omega, by omega⟩] at cH
  have cK := keys_fn x 7 w
  have cS := sortedP_any (n := 7) (by omega) 33 #[.pointer (some ⟨w.heap.size, 0, none⟩)] (enters_of Try.func33 (by kernel_rfl) rfl) S N hN _ hseq hSN
  have hfH : Fence.wide.fn 20 := trivial
  have hfK : Fence.wide.fn 22 := trivial
  have hfS : Fence.wide.fn 21 := trivial
  have hj2 : (j : Int) < 32 := by omega
  clear hseq
  refine callsIn_of_wp Try.func15 rfl trivial ?_ rfl
  simp only [Try.ntmps15, List.size_toArray, List.length_cons, List.length_nil, Nat.reduceAdd, Nat.reduceSub, Array.replicate_succ, Array.replicate_zero, List.push_toArray, List.append_toArray, List.nil_append, List.cons_append]
  gi_wp2_with (first
    | (gi_at_call 20; refine cH.mono ?_; rintro e w' ⟨rfl, hw'⟩; subst hw')
    | (gi_at_call 22; refine cK.mono ?_; rintro e w' ⟨rfl, hw'⟩; subst hw')
    | (gi_at_call 21; refine cS.mono ?_; rintro e w' ⟨v, ss, rfl, hS, hrow, hb⟩))
  go_ret
  exact ⟨v, ss, rfl, hS, ⟨_, by simp, hrow⟩, ((Below.refl _ _).alloc (Nat.le_refl _) _).trans (hb.mono (by simp))⟩
theorem swap_of (gS : Nat) (K : Nat → Prop) (s : SS) (w : World) (n : Nat) (hn : n < 32) (h : SwpMem w gS K s) :
    Calls Try.prog 15 #[.pointer (some ⟨gS, 0, none⟩), .int .i64 (n : Int)] w fun e w' => ∃ v, e = .returned v ∧ Pls w' w'.heap.size v (s n) ∧ NewS w v ∧ Below w.heap.size w w' := by
  obtain ⟨mo, h1, h2, h3⟩ := h.at_
  have c1 : w.cell? ⟨gS, n, none⟩ = some (.map (mo n)) := by rw [h1.cell n]; simpa using mapsL_at mo hn
  have hO := h2 n hn
  have hs := h.ok n
  have hl := h.len n
  cases hk : mo n with
  | none =>
    rw [hk] at hO c1
    rw [show s n = [] from hO]
    refine (of_via gS n none (fun ss => ss = []) 0 (Nat.zero_le _) w hn c1 (fun ss h => by rw [h]; exact Nat.le_refl _) (keysP_nil w.heap.size _ (by simp) ((Blk.new w 49 #[.map none]).cell 0))).mono ?_
    rintro e w' ⟨u, ss, rfl, rfl, ⟨base, hb, hr⟩, hbel⟩
    rw [show srtd [] = [] from by simp [srtd]] at hr
    exact ⟨u, rfl, Pls.of_own hr rfl, fun a n c e _ => own_new hr hb a n c e, hbel⟩
  | some k =>
    rw [hk] at hO c1
    obtain ⟨D, d1, d2, d3, d4⟩ := (hO.tight hs).tight (srt_nd hs) (fun x => setL_ne.symm)
    have hb0 : Below w.heap.size w (w.alloc (.cells #[.map (some k)] 49)) := belAl (Below.refl _ w) _
    have d1' : (w.alloc (.cells #[.map (some k)] 49)).ownsMap Try.prog 29 selfR k (s n).length D := by
      have hk := d1.lt
      obtain ⟨es, clock, hb, Ft, hs', hD⟩ := d1
      exact ⟨es, clock, (hb0.block k hk).trans hb, Ft, hs', hD⟩
    refine (of_via gS n (some k) (fun ss => AllOf D ss ∧ ss.length ≤ Maps.size D) (Maps.size D) (by omega) w hn c1 (fun ss h => h.2) (keysP_any (by omega) w.heap.size k (s n).length D _ (by simp) ((Blk.new w 49 #[.map (some k)]).cell 0) d1')).mono ?_
    rintro e w' ⟨u, ss, rfl, ⟨⟨h1, h2, h3⟩, _⟩, ⟨base, hb, hr⟩, hbel⟩
    have hmem : ∀ q, q ∈ ss ↔ q ∈ s n := by
      intro q
      by_cases hq : WPl q
      · rw [h3 q hq, hasK_look d1 EP.K, show lookK D (litP q) = setL (s n) q from d3 q hq, ← setL_ne (l := s n)]
        cases setL (s n) q <;> simp
      · constructor
        · exact fun h => absurd (h2 q h) hq
        · exact fun h => absurd (d4 q hq) (setL_ne.2 h)
    have hsl : srtd ss = s n := srt_ext (srtd_srt h1) hs fun q => by rw [(srtd_perm ss).mem_iff, hmem q]
    rw [hsl] at hr
    have hlen : (s n).length = ss.length := by rw [← hsl, (srtd_perm ss).length_eq]
    exact ⟨u, rfl, Pls.of_own hr hlen, fun a n c e _ => own_new hr hb a n c e, hbel⟩
theorem swap_of_nil (w : World) (n : Int) : Calls Try.prog 15 #[.pointer none, .int .i64 n] w fun e w' => ∃ A c, e = .returned (.slice A 0 c) ∧ Below w.heap.size w w' := by
  go_enter Try.func15, Try.ntmps15
  go_wp2_with fail
  refine (has_nil n w).mono ?_
  rintro e w' ⟨rfl, hw⟩
  have hw' := hw.symm
  subst hw'
  clear hw
  go_wp2_with fail
  go_ret
  exact ⟨none, 0, rfl, Below.refl _ _⟩
end Go.Proofs.Ythfcmfhmaokioaa
