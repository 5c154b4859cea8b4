/-
  Keys of a cache over the landed code.
  Conditions: those that each line bears.
-/
import Derived.Test.YtcfjkppgfjlbbaaCaF
import Derived.Test.YtcfjkppgfjlbbaaKeT
namespace Go.Proofs.Ytcfjkppgfjlbbaa
open Go.RowKit Go.Shelf Go.Lib Go.Sort
set_option linter.unusedVariables false

set_option maxRecDepth 20000 in
theorem index_nil (lb : Array Value) (w : World) : Calls Try.prog 29 #[.slice none 0 0, .func (.func 24) #[] lb] w fun e w' => e = .returned (.int .i64 (-1)) ∧ w' = w := by
  go_enter Try.func29, Try.ntmps29
  go_wp2_with fail
  refine wp_loop_rounds 1 ?_
  rw [rounds_succ]
  go_wp2_with fail
  go_ret
  exact ⟨rfl, rfl⟩
set_option maxRecDepth 20000 in
theorem deleteK_nil (lb : Array Value) (w : World) : Calls Try.prog 23 #[.slice none 0 0, .func (.func 24) #[] lb] w fun e w' => e = .returned (.slice none 0 0) ∧ w' = w := by
  go_enter Try.func23, Try.ntmps23
  go_wp2_with fail
  refine (index_nil lb w).mono ?_
  rintro e w' ⟨rfl, hw⟩
  have hw' := hw.symm
  subst hw'
  clear hw
  go_wp2_with fail
  go_ret
  exact ⟨rfl, rfl⟩
/-- What DeleteFunc makes of a row of the call's own. -/
theorem deleteK_own (bx : Nat) (file : Int) (base : Nat) (v : Value) (l : List Pl) (w : World) (h : w.ownsRow base 30 2 v l.length (flatP l)) (hn : l.length ≤ 1000000) (hc : w.cell? ⟨bx, 0, none⟩ = some (.int .i64 file)) (hb : bx < w.heap.size) (hbx : bx < base) (B : Nat) (hB : B ≤ base) (hBw : B ≤ w.heap.size) :
    Calls Try.prog 23 #[v, .func (.func 24) #[] #[.pointer (some ⟨bx, 0, none⟩)]] w fun e w' => ∃ u, e = .returned u ∧ Pls w' w'.heap.size u (keepF file l) ∧ Below B w w' := by
  rcases h.2 with ⟨rfl, h0⟩ | ⟨g, cap, cur, rfl, hbase, hgb, r1, r2, r3, r4⟩
  · obtain rfl : l = [] := List.eq_nil_of_length_eq_zero h0
    refine (deleteK_nil _ w).mono ?_
    rintro e w' ⟨rfl, rfl⟩
    exact ⟨_, rfl, Pls.nil_ _ _, Below.refl _ _⟩
  · refine (deleteK_any bx file g l.length cap B l cur w rfl hn r1 r2 hgb r3 (CellsK.of_flat r4) hc hb (by omega) (by omega) hBw).mono ?_
    rintro e w' ⟨m, rfl, h1, h2, h3, h4⟩
    have hm : m ≤ l.length := by rw [← h1]; exact List.length_filter_le _ _
    refine ⟨_, rfl, ⟨_, m, cap, rfl, h1, by omega, r2, fun h => (by cases h), fun h0 => ⟨g, 0, rfl, h3, fun j hj => ?_⟩⟩, h4⟩
    have := h2 j (by omega)
    simpa using this
set_option maxRecDepth 100000 in
set_option maxHeartbeats 2000000 in
/-- Keys, whatever the pages are. -/
theorem keys_via (v : Value) (po ko : Option Nat) (file : Int) (S : List Pl → Prop) (N : Nat) (hN : N ≤ 1000000) (w : World) (hkp : KeptIs w v po ko) (hSN : ∀ ss, S ss → ss.length ≤ N)
    (hseq : SeqStopsK Fence.wide 4 Try.prog 27 #[.pointer (some ⟨w.heap.size + 1 + 1, 0, none⟩)] (fun p => #[encP p]) KeepsWalks S (fun _ => True) N (((w.alloc (.cells #[.int .i64 file] 3)).alloc (.cells #[.map po, .map ko] 48)).alloc (.cells #[.map po] 45))) :
    Calls Try.prog 15 #[v, .int .i64 file] w fun e w' => ∃ (u : Value) (ss : List Pl), e = .returned u ∧ S ss ∧ Pls w' w'.heap.size u (keepF file (srtd ss)) ∧ Below w.heap.size w w' := by
  refine (callsIn_wide (n := 8)).1 ?_
  obtain ⟨W0, hW0⟩ : ∃ W0, w.alloc (.cells #[.int .i64 file] 3) = W0 := ⟨_, rfl⟩
  obtain ⟨W1, hW1⟩ : ∃ W1, W0.alloc (.cells #[.map po, .map ko] 48) = W1 := ⟨_, rfl⟩
  obtain ⟨W2, hW2⟩ : ∃ W2, W1.alloc (.cells #[.map po] 45) = W2 := ⟨_, rfl⟩
  have hs0 : W0.heap.size = w.heap.size + 1 := by rw [← hW0]; simp
  have hs1 : W1.heap.size = w.heap.size + 1 + 1 := by rw [← hW1]; simp [hs0]
  have hs2 : W2.heap.size = w.heap.size + 1 + 1 + 1 := by rw [← hW2]; simp [hs1]
  have hb0 : Below w.heap.size w W0 := by rw [← hW0]; exact belAl (Below.refl _ w) _
  have hb2 : Below w.heap.size w W2 := by rw [← hW2, ← hW1, ← hW0]; exact belAl (belAl (belAl (Below.refl _ w) _) _) _
  have hx2 : Blk W2 w.heap.size 3 #[.int .i64 file] := by rw [← hW2, ← hW1, ← hW0]; exact ((Blk.new w _ _).al _).al _
  rw [hW0, hW1, hW2] at hseq
  have cP := callsIn_wide (n := 7).2 (kept_any v po ko W0 (hkp.far hb0))
  rw [hW1] at cP
  have cK := keysK_fn po 7 W1
  rw [hW2, hs1] at cK
  have cS := sortedK_any (n := 7) (by omega) 27 #[.pointer (some ⟨w.heap.size + 1 + 1, 0, none⟩)] (enters_of Try.func27 (by kernel_rfl) rfl) S N hN W2 hseq hSN
  have HX := Lib.hid (And.intro hb2 (And.intro hx2 hs2))
  have hfP : Fence.wide.fn 17 := trivial
  have hfK : Fence.wide.fn 19 := trivial
  have hfS : Fence.wide.fn 18 := trivial
  have hfD : Fence.wide.fn 23 := trivial
  have q0 := fldC0 po ko
  clear hseq hb0 hb2 hx2 hs0 hs1 hs2 hkp
  refine callsIn_of_wp Try.func15 rfl trivial ?_ rfl
  simp only [Try.ntmps15, List.size_toArray, List.length_cons, List.length_nil, Nat.reduceAdd, Nat.reduceSub, Array.replicate_succ, Array.replicate_zero, List.push_toArray, List.append_toArray, List.nil_append, List.cons_append]
  gi_wp2_with (first
    | (gi_at_call 17; refine cP.mono ?_; rintro e w' ⟨rfl, hw'⟩; subst hw')
    | (gi_at_call 19; refine cK.mono ?_; rintro e w' ⟨rfl, hw'⟩; subst hw')
    | (gi_at_call 18; refine cS.mono ?_; rintro e w3 ⟨u, ss, rfl, hS, hrow, hb3⟩))
  obtain ⟨hb2, hx2, hs2⟩ := HX.out
  have hx3 := hx2.below hb3 (by omega)
  have hlen : (srtd ss).length = ss.length := (srtd_perm ss).length_eq
  have hsz := hb3.size
  rw [← hlen] at hrow
  have cD := callsIn_wide (n := 7).2 (deleteK_own w.heap.size file _ u (srtd ss) w3 hrow (by rw [hlen]; exact Nat.le_trans (hSN ss hS) hN) (hx3.cell 0) (by omega) (by omega) w.heap.size (by omega) (by omega))
  have HB := Lib.hid (hb2.trans (hb3.mono (by omega)))
  clear hb2 hx2 hb3 hx3 hrow
  refine cD.mono ?_
  rintro e w4 ⟨u', rfl, hP, hb4⟩
  gi_wp2
  go_ret
  exact ⟨u', ss, rfl, hS, hP, HB.out.trans hb4⟩
theorem otherF_false {file : Int} {k : Pl} : (!otherF file k) = true ↔ (file < 0 ∨ k.c = file) := by
  unfold otherF
  by_cases h : 0 ≤ file
  · have h' : ¬ file < 0 := by omega
    simp [h, h']
  · have h' : file < 0 := by omega
    simp [h, h']
theorem keysC_of {es : CS} {file : Int} {ss : List Pl} (hn : ss.Nodup) (hm : ∀ k, k ∈ ss ↔ ∃ e ∈ es, e.k = k) : KeysC es file (keepF file (srtd ss)) := by
  refine ⟨(srtd_srt hn).filter _, fun k => ?_⟩
  unfold keepF
  rw [List.mem_filter, (srtd_perm ss).mem_iff, hm k, otherF_false]
section
variable (gC : Nat) (K : Nat → Prop) (es : CS) (w : World)
theorem cache_keys (file : Int) (h : CacMem w gC K es) (wf : W64c file) :
    Calls Try.prog 15 #[.pointer (some ⟨gC, 0, none⟩), .int .i64 file] w fun e w' => ∃ v l, e = .returned v ∧ Pls w' w'.heap.size v l ∧ KeysC es file l ∧ Below w.heap.size w w' := by
  obtain ⟨po, ko, h1, h2, h3⟩ := h.kept
  obtain ⟨W2, hW2⟩ : ∃ W2, ((w.alloc (.cells #[.int .i64 file] 3)).alloc (.cells #[.map po, .map ko] 48)).alloc (.cells #[.map po] 45) = W2 := ⟨_, rfl⟩
  have hb2 : Below w.heap.size w W2 := by rw [← hW2]; exact belAl (belAl (belAl (Below.refl _ w) _) _) _
  have hlt2 : w.heap.size + 1 + 1 < W2.heap.size := by rw [← hW2]; simp
  have hm2 : W2.cell? ⟨w.heap.size + 1 + 1, 0, none⟩ = some (.map po) := by
    rw [← hW2]
    have := (Blk.new ((w.alloc (.cells #[.int .i64 file] 3)).alloc (.cells #[.map po, .map ko] 48)) 45 #[.map po]).cell 0
    simpa using this
  cases po with
  | none =>
    cases ko with
    | some _ => exact h3.elim
    | none =>
      obtain rfl : es = [] := h3
      refine (keys_via _ none none file (fun ss => ss = []) 0 (Nat.zero_le _) w h1 (fun ss h => by rw [h]; exact Nat.le_refl _) (by rw [hW2]; exact keysK_nil _ _ hlt2 hm2)).mono ?_
      rintro e w' ⟨u, ss, rfl, rfl, hP, hb⟩
      exact ⟨u, _, rfl, hP, keysC_of List.nodup_nil (fun k => by simp), hb⟩
  | some p =>
    cases ko with
    | none => exact h3.elim
    | some q =>
      obtain ⟨m1, m2, m3, ⟨n, m4⟩, m5⟩ := h3
      obtain ⟨D, d1, d2, d3, d4⟩ := (m4.far (hb2.block p (h.lt p m1))).tight (keys_nodup h.ok) (fun x => pagesL_ne.symm)
      rw [List.length_map] at d1 d2
      have hlen := h.len
      refine (keys_via _ (some p) (some q) file (fun ss => AllOfK D ss ∧ ss.length ≤ Maps.size D) (Maps.size D) (by omega) w h1 (fun ss h => h.2) (by rw [hW2]; exact keysK_any (by omega) _ p es.length D W2 hlt2 hm2 d1)).mono ?_
      rintro e w' ⟨u, ss, rfl, ⟨⟨h1, h2, h3⟩, _⟩, hP, hb⟩
      refine ⟨u, _, rfl, hP, keysC_of h1 (fun k => ?_), hb⟩
      rw [show (∃ e ∈ es, e.k = k) ↔ k ∈ es.map (·.k) from List.mem_map.symm, ← pagesL_ne]
      by_cases hq : WPlc k
      · rw [h3 k hq, hasK_look d1 EK.K, show lookK D (litK k) = pagesL es k from d3 k hq]
        cases pagesL es k <;> simp
      · constructor
        · exact fun h => absurd (h2 k h) hq
        · exact fun h => absurd (d4 k hq) h
theorem cache_keys_nil (file : Int) : Calls Try.prog 15 #[.pointer none, .int .i64 file] w fun e w' => ∃ A c, e = .returned (.slice A 0 c) ∧ Below w.heap.size w w' := by
  obtain ⟨W2, hW2⟩ : ∃ W2, ((w.alloc (.cells #[.int .i64 file] 3)).alloc (.cells #[.map none, .map none] 48)).alloc (.cells #[.map none] 45) = W2 := ⟨_, rfl⟩
  have hlt2 : w.heap.size + 1 + 1 < W2.heap.size := by rw [← hW2]; simp
  have hm2 : W2.cell? ⟨w.heap.size + 1 + 1, 0, none⟩ = some (.map none) := by
    rw [← hW2]
    have := (Blk.new ((w.alloc (.cells #[.int .i64 file] 3)).alloc (.cells #[.map none, .map none] 48)) 45 #[.map none]).cell 0
    simpa using this
  refine (keys_via _ none none file (fun ss => ss = []) 0 (Nat.zero_le _) w (kept_nil w) (fun ss h => by rw [h]; exact Nat.le_refl _) (by rw [hW2]; exact keysK_nil _ _ hlt2 hm2)).mono ?_
  rintro e w' ⟨u, ss, rfl, rfl, ⟨A, n, c, rfl, hn, _⟩, hb⟩
  have : n = 0 := by rw [← hn]; simp [keepF, srtd]
  subst this
  exact ⟨A, c, rfl, hb⟩
end
end Go.Proofs.Ytcfjkppgfjlbbaa
