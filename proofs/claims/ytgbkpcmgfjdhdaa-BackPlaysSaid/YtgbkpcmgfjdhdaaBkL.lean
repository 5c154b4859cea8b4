/-
  Layer 13's own question 'answers', and BackNone, answer true; a back map of the call's own, of which all is known.
  Conditions: none beside the back map's contracts.
-/
import Derived.Test.YtgbkpcmgfjdhdaaBkI
import Derived.Test.YtgbkpcmgfjdhdaaBkO
import Derived.BigQuiet
import Derived.Deep.QuietTactic
import Derived.Deep.RegionHeld3
namespace Go.Proofs.Ytgbkpcmgfjdhdaa
open Go.RowKit
set_option linter.unusedVariables false

/-- A back map of the call's own; nothing that lay in w0 turns, nor block gA (or none). -/
structure BkT (w0 w : World) (gB : Nat) (b : BS) (Z : Nat → Prop) : Prop where
  ex : ∃ K, BackMem w gB K b ∧ ∀ k, K k → w0.heap.size ≤ k ∧ ¬ Z k
  bel : Below w0.heap.size w0 w
section
variable {w0 w w' : World} {gB : Nat} {b b' : BS} {Z : Nat → Prop}
theorem BkT.srt (h : BkT w0 w gB b Z) : ∀ f, SrtP (b f) := by
  obtain ⟨⟨K, h1, _⟩, _⟩ := h
  exact h1.srt
theorem BkT.fresh (h : BkT w0 w gB b Z) (hb : Below w.heap.size w w') : BkT w0 w' gB b Z := by
  obtain ⟨⟨K, h1, h2⟩, h3⟩ := h
  exact ⟨⟨K, h1.fresh hb, h2⟩, h3.trans (hb.mono h3.size)⟩
theorem BkT.only (h : BkT w0 w gB b Z) {g : Nat} (ho : Only g w w') (hz : Z g) (hg : w0.heap.size ≤ g) : BkT w0 w' gB b Z := by
  obtain ⟨⟨K, h1, h2⟩, h3⟩ := h
  exact ⟨⟨K, h1.only ho (fun hk => (h2 g hk).2 hz), h2⟩, h3.trans (ho.below hg h3.size)⟩
/-- What a call leaves that turns it. -/
def BkPost (w0 w : World) (gB : Nat) (v : Value) (b' : BS) (Z : Nat → Prop) (e : Ending) (w' : World) : Prop :=
  e = .returned v ∧ BkT w0 w' gB b' Z ∧ (∀ k, k < w.heap.size → Z k → w'.heap[k]? = w.heap[k]?) ∧ (∀ k, k < w0.heap.size → w'.heap[k]? = w.heap[k]?) ∧ w.heap.size ≤ w'.heap.size
theorem BkT.post (h : BkT w0 w gB b Z) (hz : ∀ k, Z k → k < w.heap.size) {v : Value} {f : Nat} {args : Array Value} {P : Program}
    (hc : ∀ K, BackMem w gB K b → Calls P f args w (BackPost w gB K v b')) : Calls P f args w (BkPost w0 w gB v b' Z) := by
  obtain ⟨⟨K, h1, h2⟩, h3⟩ := h
  refine (hc K h1).mono ?_
  rintro e w' ⟨K', rfl, k1, k2, k3⟩
  refine ⟨rfl, ⟨⟨K', k1, fun k hk => ?_⟩, h3.trans (k3.below (fun k hk => (h2 k hk).1) h3.size)⟩, fun k hk hz => k3.block k hk (fun hk' => (h2 k hk').2 hz), fun k hk => k3.block k (Nat.lt_of_lt_of_le hk h3.size) (fun hk' => by have := (h2 k hk').1; omega), k3.size⟩
  rcases k2 k hk with hk | hk
  · exact h2 k hk
  · exact ⟨by have := h3.size; omega, fun hz' => by have := hz k hz'; omega⟩
end
section
variable {w0 w : World} {gB : Nat} {b : BS} {Z : Nat → Prop}
theorem bk_new (w : World) (Z : Nat → Prop) (hz : ∀ k, Z k → k < w.heap.size) : Calls Try.prog 8 #[] w fun e w' => ∃ gB, e = .returned (.pointer (some ⟨gB, 0, none⟩)) ∧ BkT w w' gB bs0 Z :=
  (back_new w).mono fun e w' ⟨gB, K, he, h1, h2, h3⟩ => ⟨gB, he, ⟨K, h1, fun k hk => ⟨h2 k hk, fun h => by have := hz k h; have := h2 k hk; omega⟩⟩, h3⟩
theorem bk_add (h : BkT w0 w gB b Z) (hz : ∀ k, Z k → k < w.heap.size) (f : Int) (p : Pl) (wf : W64 f) (wp : WPl p) (hl : (b f).length ≤ 100000) (hM : FewM b) :
    Calls Try.prog 9 #[.pointer (some ⟨gB, 0, none⟩), .int .i64 f, .agg #[.int .i64 p.c, .int .i64 p.g]] w (BkPost w0 w gB (.tuple #[]) (updB b f (putP (b f) p)) Z) :=
  h.post hz fun K hK => back_add gB K b w f p hK wf wp hl hM.few
theorem bk_drop (h : BkT w0 w gB b Z) (hz : ∀ k, Z k → k < w.heap.size) (f : Int) (p : Pl) (wf : W64 f) (wp : WPl p) :
    Calls Try.prog 12 #[.pointer (some ⟨gB, 0, none⟩), .int .i64 f, .agg #[.int .i64 p.c, .int .i64 p.g]] w (BkPost w0 w gB (.bool (decide (p ∈ b f))) (updB b f ((b f).erase p)) Z) :=
  h.post hz fun K hK => back_drop gB K b w f p hK wf wp
theorem bk_move (h : BkT w0 w gB b Z) (hz : ∀ k, Z k → k < w.heap.size) (f t : Int) (wf : W64 f) (wt : W64 t) (hl : (b f).length + (b t).length ≤ 100000) (hM : FewM b) :
    Calls Try.prog 13 #[.pointer (some ⟨gB, 0, none⟩), .int .i64 f, .int .i64 t] w (BkPost w0 w gB (.bool (decide (b f ≠ [] ∧ f ≠ t))) (movB b f t) Z) :=
  h.post hz fun K hK => back_move gB K b w f t hK wf wt hl hM
theorem bk_of (h : BkT w0 w gB b Z) (f : Int) (wf : W64 f) :
    Calls Try.prog 15 #[.pointer (some ⟨gB, 0, none⟩), .int .i64 f] w fun e w' => ∃ v, e = .returned v ∧ Pls w' w'.heap.size v (b f) ∧ NewV w v ∧ Below w.heap.size w w' := by
  obtain ⟨⟨K, h1, _⟩, _⟩ := h
  exact back_of gB K b w f h1 wf
theorem bk_frames (h : BkT w0 w gB b Z) (c : Int) (wc : W64 c) (hM : FewM b) :
    Calls Try.prog 17 #[.pointer (some ⟨gB, 0, none⟩), .int .i64 c] w fun e w' => ∃ v l, e = .returned v ∧ Its w' w'.heap.size v l ∧ l.Pairwise (fun x y => x < y) ∧ (∀ f, f ∈ l ↔ ∃ p ∈ b f, p.c = c) ∧ Below w.heap.size w w' := by
  obtain ⟨⟨K, h1, _⟩, _⟩ := h
  exact back_frames gB K b w c h1 hM.few
end
theorem BkT.widen {w0 w w' : World} {gB : Nat} {b : BS} {Z Z' : Nat → Prop} (h : BkT w0 w gB b Z) (hb : Below w.heap.size w w') (hz : ∀ k, Z' k → Z k ∨ w.heap.size ≤ k) : BkT w0 w' gB b Z' := by
  obtain ⟨⟨K, h1, h2⟩, h3⟩ := h
  refine ⟨⟨K, h1.fresh hb, fun k hk => ⟨(h2 k hk).1, fun hz' => ?_⟩⟩, h3.trans (hb.mono h3.size)⟩
  rcases hz k hz' with h | h
  · exact (h2 k hk).2 h
  · have := h1.lt k hk
    omega
theorem noZ : ∀ (w : World) (k : Nat), (fun _ : Nat => False) k → k < w.heap.size := fun w k h => h.elim
set_option maxRecDepth 20000 in
set_option maxHeartbeats 1000000 in
theorem bkAnswers_any (w : World) :
    Calls Try.prog 7 #[] w fun e w' => e = .returned (.bool true) ∧ Below w.heap.size w w' := by
  go_enter Try.func7, Try.ntmps7
  go_wp2_with fail
  refine (bk_new w (fun _ => False) (noZ w)).mono ?_
  rintro e w1 ⟨gB, rfl, h1⟩
  have H1 := Lib.hid h1
  clear h1
  go_wp2_with fail
  refine (bk_add H1.out (noZ _) 5 ⟨1, 2⟩ (by decide) ⟨by decide, by decide⟩ (by decide) few0).mono ?_
  rintro e w2 ⟨rfl, h2, -, -, -⟩
  have H2 := Lib.hid h2
  clear h2
  go_wp2_with fail
  refine (bk_of H2.out 5 (by decide)).mono ?_
  rintro e w3 ⟨v, rfl, h3, -, hb3⟩
  have e3 : updB bs0 5 (putP (bs0 5) ⟨1, 2⟩) 5 = [⟨1, 2⟩] := by rw [updB_same]; rfl
  rw [e3] at h3
  obtain ⟨A3, n3, c3, rfl, hn3, -⟩ := h3
  obtain rfl : n3 = 1 := by rw [← hn3]; rfl
  have H3 := Lib.hid (H2.out.fresh hb3)
  clear hn3 hb3 e3
  go_wp2_with fail
  refine (bk_drop H3.out (noZ _) 5 ⟨1, 2⟩ (by decide) ⟨by decide, by decide⟩).mono ?_
  rintro e w4 ⟨rfl, h4, -, -, -⟩
  have e4 : decide ((⟨1, 2⟩ : Pl) ∈ updB bs0 5 (putP (bs0 5) ⟨1, 2⟩) 5) = true := by rw [updB_same]; decide
  rw [e4]
  have H4 := Lib.hid h4
  clear h4 e4
  go_wp2_with fail
  refine (bk_of H4.out 5 (by decide)).mono ?_
  rintro e w5 ⟨v, rfl, h5, -, hb5⟩
  have e5 : updB (updB bs0 5 (putP (bs0 5) ⟨1, 2⟩)) 5 ((updB bs0 5 (putP (bs0 5) ⟨1, 2⟩) 5).erase ⟨1, 2⟩) 5 = [] := by rw [updB_same, updB_same]; decide
  rw [e5] at h5
  obtain ⟨A5, n5, c5, rfl, hn5, -⟩ := h5
  obtain rfl : n5 = 0 := by rw [← hn5]; rfl
  have H5 := Lib.hid (H4.out.fresh hb5)
  clear hn5 hb5 e5
  go_wp2
  go_ret
  exact ⟨rfl, H5.out.bel⟩
set_option maxRecDepth 20000 in
set_option maxHeartbeats 1000000 in
theorem backNone_any (f c g : Int) (w : World) (wf : W64 f) (wc : W64 c) (wg : W64 g) :
    Calls Try.prog 4 #[.int .i64 f, .agg #[.int .i64 c, .int .i64 g]] w fun e w' => e = .returned (.bool true) ∧ Below w.heap.size w w' := by
  have HB := Lib.hid (belAl (Below.refl w.heap.size w) (.cells #[.int .i64 c, .int .i64 g] 29))
  have HK := Lib.hid (Blk.new w 29 #[.int .i64 c, .int .i64 g])
  have WF := Lib.hid wf
  have WP := Lib.hid (show WPl ⟨c, g⟩ from ⟨wc, wg⟩)
  clear wf wc wg
  go_enter Try.func4, Try.ntmps4
  go_wp2_with fail
  refine (back_add_nil _ f c g).mono ?_
  rintro e w1 ⟨rfl, h1⟩
  have B1 := Lib.hid (HB.out.trans (h1.mono HB.out.size))
  have K1 := Lib.hid (HK.out.below h1 HK.out.lt)
  clear h1
  go_wp2_with fail
  refine (bkAnswers_any _).mono ?_
  rintro e w2 ⟨rfl, h2⟩
  have B2 := Lib.hid (B1.out.trans (h2.mono B1.out.size))
  have K2 := Lib.hid (K1.out.below h2 K1.out.lt)
  have k0 := K2.out.cell 0
  have k1 := K2.out.cell 1
  clear h2
  go_wp2_with fail
  refine (back_drop_nil _ f ⟨c, g⟩ WF.out WP.out).mono ?_
  rintro e w3 ⟨rfl, h3⟩
  have B3 := Lib.hid (B2.out.trans (h3.mono B2.out.size))
  have K3 := Lib.hid (K2.out.below h3 K2.out.lt)
  clear h3 k0 k1
  go_wp2_with fail
  refine (back_of_nil _ f WF.out).mono ?_
  rintro e w4 ⟨A4, c4, rfl, h4⟩
  have B4 := Lib.hid (B3.out.trans (h4.mono B3.out.size))
  have K4 := Lib.hid (K3.out.below h4 K3.out.lt)
  have k0 := K4.out.cell 0
  clear h4
  go_wp2_with fail
  refine (back_frames_nil _ c).mono ?_
  rintro e w5 ⟨A5, c5, rfl, h5⟩
  have B5 := Lib.hid (B4.out.trans (h5.mono B4.out.size))
  clear h5 k0
  go_wp2_with fail
  refine (back_move_nil _ f _ WF.out).mono ?_
  rintro e w6 ⟨rfl, h6⟩
  have B6 := Lib.hid (B5.out.trans (h6.mono B5.out.size))
  clear h6
  go_wp2
  go_ret
  exact ⟨rfl, B6.out⟩
end Go.Proofs.Ytgbkpcmgfjdhdaa
