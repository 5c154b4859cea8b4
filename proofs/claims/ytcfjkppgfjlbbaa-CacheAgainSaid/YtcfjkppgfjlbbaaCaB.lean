/-
  Frame, Of, Dirty of a cache over the landed code.
  Conditions: none beside those that each line bears.
-/
import Derived.Test.YtcfjkppgfjlbbaaCaA
import Derived.Test.YtcfjkppgfjlbbaaRwt
import Derived.StillTailTactics
import Derived.Carry
import Derived.Deep.RegionWith
namespace Go.Proofs.Ytcfjkppgfjlbbaa
open Go.RowKit
set_option linter.unusedVariables false

theorem fldC0 (po ko : Option Nat) (w : World) : (Instr.field 48 (.agg #[.map po, .map ko]) 0).run Try.prog w = .ok (.map po) w := by kernel_rfl
theorem fldC1 (po ko : Option Nat) (w : World) : (Instr.field 48 (.agg #[.map po, .map ko]) 1).run Try.prog w = .ok (.map ko) w := by kernel_rfl
theorem fldPg1 (f : Int) (d : Bool) (w : World) : (Instr.field 50 (.agg #[.int .i64 f, .bool d]) 1).run Try.prog w = .ok (.bool d) w := by kernel_rfl
set_option maxRecDepth 20000 in
set_option maxHeartbeats 1000000 in
theorem frame_via (v : Value) (po ko : Option Nat) (k : Pl) (f : Int) (d ok : Bool) (w : World) (h : KeptIs w v po ko)
    (hl : ∀ W, Below w.heap.size w W → (Instr.lookup 45 (.map po) (.agg #[.int .i64 k.c, .int .i64 k.g]) true).run Try.prog W = .ok (.tuple #[.agg #[.int .i64 f, .bool d], .bool ok]) W) :
    Calls Try.prog 12 #[v, .agg #[.int .i64 k.c, .int .i64 k.g]] w fun e w' => e = .returned (.tuple #[.int .i64 f, .bool ok]) ∧ Below w.heap.size w w' := by
  have hk : ∀ W, Below w.heap.size w W → Calls Try.prog 17 #[v] W fun e w' => e = .returned (.agg #[.map po, .map ko]) ∧ w' = W.alloc (.cells #[.map po, .map ko] 48) := fun W hb => kept_any v po ko W (h.far hb)
  clear h
  have kA := hk ((w.alloc (.cells #[.int .i64 k.c, .int .i64 k.g] 30)).drew) (belAl (Below.refl _ w) _).drew
  have kB := hk (((w.alloc (.cells #[.int .i64 k.c, .int .i64 k.g] 30)).alloc (.cells #[.int .i64 0, .bool false] 50)).drew) (belAl (belAl (Below.refl _ w) _) _).drew
  clear hk
  have q0 := fldC0 po ko
  have l0 := hl (((w.alloc (.cells #[.int .i64 k.c, .int .i64 k.g] 30)).alloc (.cells #[.map po, .map ko] 48)).drew) (belAl (belAl (Below.refl _ w) _) _).drew
  have l1 := hl ((((w.alloc (.cells #[.int .i64 k.c, .int .i64 k.g] 30)).alloc (.cells #[.int .i64 0, .bool false] 50)).alloc (.cells #[.map po, .map ko] 48)).drew) (belAl (belAl (belAl (Below.refl _ w) _) _) _).drew
  have l2 := hl ((((w.alloc (.cells #[.int .i64 k.c, .int .i64 k.g] 30)).alloc (.cells #[.map po, .map ko] 48)).alloc (.cells #[.int .i64 0, .bool false] 50)).drew) (belAl (belAl (belAl (Below.refl _ w) _) _) _).drew
  clear hl
  go_enter Try.func12, Try.ntmps12
  go_wp2_with fail
  go_region_with (first
    | (go_at_call 17; refine kA.mono ?_; rintro e w' ⟨rfl, rfl⟩)
    | (go_at_call 17; refine kB.mono ?_; rintro e w' ⟨rfl, rfl⟩))
  all_goals
    go_wp2_with fail
    go_ret2
    refine ⟨rfl, ?_⟩
    repeat first
      | exact Below.refl _ _
      | refine Below.drew ?_
      | refine belAl ?_ _
set_option maxRecDepth 20000 in
set_option maxHeartbeats 1000000 in
theorem cacOf_via (v : Value) (po ko : Option Nat) (f : Int) (k : Pl) (ok : Bool) (w : World) (h : KeptIs w v po ko)
    (hl : ∀ W, Below w.heap.size w W → (Instr.lookup 46 (.map ko) (.int .i64 f) true).run Try.prog W = .ok (.tuple #[.agg #[.int .i64 k.c, .int .i64 k.g], .bool ok]) W) :
    Calls Try.prog 13 #[v, .int .i64 f] w fun e w' => e = .returned (.tuple #[.agg #[.int .i64 k.c, .int .i64 k.g], .bool ok]) ∧ Below w.heap.size w w' := by
  have kA := kept_any v po ko (w.alloc (.cells #[.int .i64 0, .int .i64 0] 30)) (h.far (belAl (Below.refl _ w) _))
  have l0 := hl ((w.alloc (.cells #[.int .i64 0, .int .i64 0] 30)).alloc (.cells #[.map po, .map ko] 48)) (belAl (belAl (Below.refl _ w) _) _)
  have q0 := fldC1 po ko
  clear h hl
  go_enter Try.func13, Try.ntmps13
  go_wp2_with fail
  refine kA.mono ?_
  rintro e w' ⟨rfl, rfl⟩
  go_wp2_with fail
  refine bodyPost_ret (results_row_tmp rfl _ _ w.heap.size 30 #[.int .i64 k.c, .int .i64 k.g] _ rfl (((Blk.new w _ _).al _).al _) Try.underlying30 rfl (by kernel_rfl)) rfl ?_
  exact ⟨rfl, belAl (belAl (belAl (Below.refl _ w) _) _) _⟩
set_option maxRecDepth 20000 in
set_option maxHeartbeats 1000000 in
theorem dirty_via (v : Value) (po ko : Option Nat) (k : Pl) (f : Int) (d : Bool) (w : World) (h : KeptIs w v po ko)
    (hl : ∀ W, Below w.heap.size w W → (Instr.lookup 45 (.map po) (.agg #[.int .i64 k.c, .int .i64 k.g]) false).run Try.prog W = .ok (.agg #[.int .i64 f, .bool d]) W) :
    Calls Try.prog 14 #[v, .agg #[.int .i64 k.c, .int .i64 k.g]] w fun e w' => e = .returned (.bool d) ∧ Below w.heap.size w w' := by
  have kA := kept_any v po ko (w.alloc (.cells #[.int .i64 k.c, .int .i64 k.g] 30)).drew (h.far (belAl (Below.refl _ w) _).drew)
  have l0 := hl ((w.alloc (.cells #[.int .i64 k.c, .int .i64 k.g] 30)).alloc (.cells #[.map po, .map ko] 48)).drew (belAl (belAl (Below.refl _ w) _) _).drew
  have q0 := fldC0 po ko
  have q1 := fldPg1 f d
  clear h hl
  go_enter Try.func14, Try.ntmps14
  go_wp2_with fail
  go_region_with (go_at_call 17; refine kA.mono ?_; rintro e w' ⟨rfl, rfl⟩)
  all_goals
    go_wp2_with fail
    go_ret
    refine ⟨rfl, ?_⟩
    repeat first
      | exact Below.refl _ _
      | refine Below.drew ?_
      | refine belAl ?_ _
theorem CacMem.kept {w : World} {gC : Nat} {K : Nat → Prop} {es : CS} (h : CacMem w gC K es) : ∃ po ko, KeptIs w (.pointer (some ⟨gC, 0, none⟩)) po ko ∧ Blk w gC 48 #[.map po, .map ko] ∧ CacMaps w K es po ko := by
  obtain ⟨po, ko, h1, h2⟩ := h.at_
  exact ⟨po, ko, .inr ⟨gC, rfl, h1⟩, h1, h2⟩
theorem zeroPg (w : World) : (zeroValue 50).run Try.prog w = .ok (.agg #[.int .i64 0, .bool false]) w := by kernel_rfl
theorem zeroKy (w : World) : (zeroValue 30).run Try.prog w = .ok (.agg #[.int .i64 0, .int .i64 0]) w := by kernel_rfl
/-- What a look-up of a page finds. -/
theorem look_page {w : World} {K : Nat → Prop} {es : CS} {po ko : Option Nat} (hm : CacMaps w K es po ko) (hlt : ∀ k, K k → k < w.heap.size) (k : Pl) (wk : WPlc k) (c : Bool) (W : World) (hb : Below w.heap.size w W) :
    (Instr.lookup 45 (.map po) (.agg #[.int .i64 k.c, .int .i64 k.g]) c).run Try.prog W = .ok (if c then .tuple #[(pagesL es k).getD (.agg #[.int .i64 0, .bool false]), .bool (pagesL es k).isSome] else (pagesL es k).getD (.agg #[.int .i64 0, .bool false])) W := by
  cases po with
  | none =>
    cases ko with
    | some _ => exact hm.elim
    | none =>
      obtain rfl : es = [] := hm
      exact MapK.nil_look EK W Try.underlying45 (zeroPg W) c k wk
  | some p =>
    cases ko with
    | none => exact hm.elim
    | some q =>
      obtain ⟨h1, _, _, ⟨n, h4⟩, _⟩ := hm
      have h5 : MapK EK W p n (pagesL es) := h4.far (hb.block p (hlt p h1))
      cases c with
      | true => exact h5.run_look Try.underlying45 (zeroPg W) k wk
      | false => exact h5.run_get Try.underlying45 (zeroPg W) k wk
/-- What a look-up of a frame finds. -/
theorem look_frame {w : World} {K : Nat → Prop} {es : CS} {po ko : Option Nat} (hm : CacMaps w K es po ko) (hlt : ∀ k, K k → k < w.heap.size) (f : Int) (wf : W64c f) (W : World) (hb : Below w.heap.size w W) :
    (Instr.lookup 46 (.map ko) (.int .i64 f) true).run Try.prog W = .ok (.tuple #[(keysL es f).getD (.agg #[.int .i64 0, .int .i64 0]), .bool (keysL es f).isSome]) W := by
  cases po with
  | none =>
    cases ko with
    | some _ => exact hm.elim
    | none =>
      obtain rfl : es = [] := hm
      exact MapK.nil_look EI W Try.underlying46 (zeroKy W) true f wf
  | some p =>
    cases ko with
    | none => exact hm.elim
    | some q =>
      obtain ⟨_, h1, _, _, n, h4⟩ := hm
      have h5 : MapK EI W q n (keysL es) := h4.far (hb.block q (hlt q h1))
      exact h5.run_look Try.underlying46 (zeroKy W) f wf
/-- A page's frame and whether it is dirty, as the map has them. -/
theorem pagesL_getD (es : CS) (k : Pl) : ∃ (f : Int) (d : Bool), (pagesL es k).getD (.agg #[.int .i64 0, .bool false]) = .agg #[.int .i64 f, .bool d] ∧ (pagesL es k).isSome = hasC es k ∧ frV15 (frameC es k) = .tuple #[.int .i64 f, .bool (hasC es k)] ∧ (hasC es k = true → ∃ e ∈ es, e.k = k ∧ e.f = f ∧ e.d = d) := by
  have hs := pagesL_isSome es k
  unfold pagesL frameC frV15 at *
  cases hf : es.find? (fun e => decide (e.k = k)) with
  | none =>
    rw [hf] at hs
    refine ⟨0, false, rfl, hs, ?_, fun h => ?_⟩
    · rw [← hs]; rfl
    · rw [h] at hs; cases hs
  | some e =>
    rw [hf] at hs
    refine ⟨e.f, e.d, rfl, hs, ?_, fun h => ⟨e, List.mem_of_find?_eq_some hf, by simpa using List.find?_some hf, rfl, rfl⟩⟩
    rw [← hs]; rfl
theorem keysL_getD (es : CS) (f : Int) : ∃ k : Pl, (keysL es f).getD (.agg #[.int .i64 0, .int .i64 0]) = .agg #[.int .i64 k.c, .int .i64 k.g] ∧ (keysL es f).isSome = busyC es f ∧ pgV15 (pageC es f) = .tuple #[.agg #[.int .i64 k.c, .int .i64 k.g], .bool (busyC es f)] := by
  have hs := keysL_isSome es f
  unfold keysL pageC pgV15 at *
  cases hf : es.find? (fun e => decide (e.f = f)) with
  | none =>
    rw [hf] at hs
    refine ⟨⟨0, 0⟩, rfl, hs, ?_⟩
    rw [← hs]; rfl
  | some e =>
    rw [hf] at hs
    refine ⟨e.k, rfl, hs, ?_⟩
    rw [← hs]; rfl
theorem cac_uniq {es : CS} (h : CsOk es) {e e' : Ce} (he : e ∈ es) (he' : e' ∈ es) (hk : e.k = e'.k) : e = e' := by
  induction es with
  | nil => exact absurd he List.not_mem_nil
  | cons x es ih =>
    obtain ⟨h1, h2⟩ := List.pairwise_cons.1 h
    rcases List.mem_cons.1 he with e1 | m1
    · rcases List.mem_cons.1 he' with e2 | m2
      · rw [e1, e2]
      · rw [e1] at hk
        exact absurd hk (h1 _ m2).1
    · rcases List.mem_cons.1 he' with e2 | m2
      · rw [e2] at hk
        exact absurd hk.symm (h1 _ m1).1
      · exact ih h2 m1 m2
theorem dirty_getD {es : CS} (ho : CsOk es) (k : Pl) : ∃ f : Int, (pagesL es k).getD (.agg #[.int .i64 0, .bool false]) = .agg #[.int .i64 f, .bool (dirtyC es k)] := by
  obtain ⟨f, d, h1, h2, _, h4⟩ := pagesL_getD es k
  refine ⟨f, ?_⟩
  rw [h1]
  have : d = dirtyC es k := by
    cases hh : hasC es k with
    | true =>
      obtain ⟨e, he, hk, hf, hd⟩ := h4 hh
      unfold dirtyC
      rw [← hd]
      cases hed : e.d with
      | true => exact (List.any_eq_true.2 ⟨e, he, by simp [hk, hed]⟩).symm
      | false =>
        refine (List.any_eq_false.2 fun x hx hc => ?_).symm
        rw [Bool.and_eq_true, decide_eq_true_iff] at hc
        have := cac_uniq ho hx he (hc.1.trans hk.symm)
        rw [this, hed] at hc
        cases hc.2
    | false =>
      rw [hh] at h2
      have : pagesL es k = none := by simpa using h2
      rw [this] at h1
      injection h1 with h1
      have h1' := congrArg Array.toList h1
      simp only [List.cons.injEq, Value.bool.injEq, and_true] at h1'
      rw [← h1'.2]
      refine (List.any_eq_false.2 fun x hx hc => ?_).symm
      rw [Bool.and_eq_true, decide_eq_true_iff] at hc
      rw [hasC_iff.2 ⟨x, hx, hc.1⟩] at hh
      cases hh
  rw [this]
section
variable (gC : Nat) (K : Nat → Prop) (es : CS) (w : World)
theorem cache_frame (k : Pl) (h : CacMem w gC K es) (wk : WPlc k) :
    Calls Try.prog 12 #[.pointer (some ⟨gC, 0, none⟩), .agg #[.int .i64 k.c, .int .i64 k.g]] w fun e w' => e = .returned (frV15 (frameC es k)) ∧ Below w.heap.size w w' := by
  obtain ⟨po, ko, h1, _, h3⟩ := h.kept
  obtain ⟨f, d, g1, g2, g3, _⟩ := pagesL_getD es k
  rw [g3]
  refine frame_via _ po ko k f d _ w h1 fun W hb => ?_
  rw [look_page h3 h.lt k wk true W hb, g1, g2]
  rfl
theorem cache_of (f : Int) (h : CacMem w gC K es) (wf : W64c f) :
    Calls Try.prog 13 #[.pointer (some ⟨gC, 0, none⟩), .int .i64 f] w fun e w' => e = .returned (pgV15 (pageC es f)) ∧ Below w.heap.size w w' := by
  obtain ⟨po, ko, h1, _, h3⟩ := h.kept
  obtain ⟨k, g1, g2, g3⟩ := keysL_getD es f
  rw [g3]
  refine cacOf_via _ po ko f k _ w h1 fun W hb => ?_
  rw [look_frame h3 h.lt f wf W hb, g1, g2]
theorem cache_dirty (k : Pl) (h : CacMem w gC K es) (wk : WPlc k) :
    Calls Try.prog 14 #[.pointer (some ⟨gC, 0, none⟩), .agg #[.int .i64 k.c, .int .i64 k.g]] w fun e w' => e = .returned (.bool (dirtyC es k)) ∧ Below w.heap.size w w' := by
  obtain ⟨po, ko, h1, _, h3⟩ := h.kept
  obtain ⟨f, g1⟩ := dirty_getD h.ok k
  refine dirty_via _ po ko k f _ w h1 fun W hb => ?_
  rw [look_page h3 h.lt k wk false W hb, g1]
  rfl
/-- A cache that is none: it has nothing. -/
theorem kept_nil (w : World) : KeptIs w (.pointer none) none none := .inl ⟨rfl, rfl, rfl⟩
theorem cache_frame_nil (c g : Int) (wk : WPlc ⟨c, g⟩) : Calls Try.prog 12 #[.pointer none, .agg #[.int .i64 c, .int .i64 g]] w fun e w' => e = .returned (.tuple #[.int .i64 0, .bool false]) ∧ Below w.heap.size w w' :=
  frame_via _ none none ⟨c, g⟩ 0 false false w (kept_nil w) fun W _ => MapK.nil_look EK W Try.underlying45 (zeroPg W) true ⟨c, g⟩ wk
theorem cache_of_nil (f : Int) (wf : W64c f) : Calls Try.prog 13 #[.pointer none, .int .i64 f] w fun e w' => e = .returned (.tuple #[.agg #[.int .i64 0, .int .i64 0], .bool false]) ∧ Below w.heap.size w w' :=
  cacOf_via _ none none f ⟨0, 0⟩ false w (kept_nil w) fun W _ => MapK.nil_look EI W Try.underlying46 (zeroKy W) true f wf
theorem cache_dirty_nil (c g : Int) (wk : WPlc ⟨c, g⟩) : Calls Try.prog 14 #[.pointer none, .agg #[.int .i64 c, .int .i64 g]] w fun e w' => e = .returned (.bool false) ∧ Below w.heap.size w w' :=
  dirty_via _ none none ⟨c, g⟩ 0 false w (kept_nil w) fun W _ => MapK.nil_look EK W Try.underlying45 (zeroPg W) false ⟨c, g⟩ wk
end
end Go.Proofs.Ytcfjkppgfjlbbaa
