/-
  A back map of the call's own and eight lists of places beside it; the acts of layer 13's statements in memory.
  Conditions: none beside the back map's contracts.
-/
import Derived.Test.YtgbkpcmgfjdhdaaBkV
namespace Go.Proofs.Ytgbkpcmgfjdhdaa
open Go.RowKit
set_option linter.unusedVariables false

theorem nodupLe : ∀ {l l' : List Pl}, l.Nodup → (∀ x, x ∈ l → x ∈ l') → l.length ≤ l'.length
  | [], _, _, _ => Nat.zero_le _
  | a :: l, l', hn, hs => by
    obtain ⟨h1, h2⟩ := List.nodup_cons.1 hn
    have hm : a ∈ l' := hs a List.mem_cons_self
    have h3 : l.length ≤ (l'.erase a).length := nodupLe h2 fun x hx => by
      have hne : x ≠ a := fun e => h1 (e ▸ hx)
      exact (List.mem_erase_of_ne hne).2 (hs x (List.mem_cons_of_mem _ hx))
    have h4 := List.length_erase_of_mem hm
    have h5 : 0 < l'.length := List.length_pos_of_mem hm
    rw [List.length_cons]
    omega
theorem srt_le {l P : List Pl} (h : SrtP l) (hs : ∀ q, q ∈ l → q ∈ P) : l.length ≤ P.length := nodupLe (List.Pairwise.imp (fun h => h.ne) h) hs
/-- The array of eight lists; the ninth is none of it. -/
def arrP (vs : Nat → Value) : Array Value := #[vs 0, vs 1, vs 2, vs 3, vs 4, vs 5, vs 6, vs 7]
theorem arrP_at (vs : Nat → Value) {f : Nat} (hf : f < 8) : (arrP vs)[f]? = some (vs f) := by
  match f, hf with
  | 0, _ | 1, _ | 2, _ | 3, _ | 4, _ | 5, _ | 6, _ | 7, _ => rfl
  | n + 8, h => omega
theorem arrP_set (vs : Nat → Value) {f : Nat} (hf : f < 8) (v : Value) : (arrP vs).setIfInBounds f v = arrP (upd vs f v) := by
  match f, hf with
  | 0, _ | 1, _ | 2, _ | 3, _ | 4, _ | 5, _ | 6, _ | 7, _ => rfl
  | n + 8, h => omega
/-- A list's slice: where it is, and that it is not the array. -/
def GdV (W : World) (Z : Nat → Prop) (gL : Nat) (v : Value) (l : List Pl) : Prop := Pls W W.heap.size v l ∧ Shp v ∧ InZ Z v ∧ ∀ a n c, v = .slice (some a) n c → 0 < n → a.block ≠ gL
def PlV (w : World) (gB gL : Nat) (X : Nat → Prop) (b : BS) (ls : Nat → List Pl) (vs : Nat → Value) (W : World) : Prop :=
  ∃ Z, BkT w W gB b Z ∧ (∀ k, Z k → k < W.heap.size) ∧ (Z gL ∧ ∀ k, X k → Z k) ∧ w.heap.size ≤ gL ∧ Blk W gL 27 (arrP vs) ∧ ∀ f, f < 9 → GdV W Z gL (vs f) (ls f)
section
variable {w W W' : World} {gB gL : Nat} {X : Nat → Prop} {b : BS} {ls : Nat → List Pl} {vs : Nat → Value}
theorem PlV.bel (h : PlV w gB gL X b ls vs W) : Below w.heap.size w W := by
  obtain ⟨Z, h1, _⟩ := h
  exact h1.bel
theorem PlV.srt (h : PlV w gB gL X b ls vs W) : ∀ f, SrtP (b f) := by
  obtain ⟨Z, h1, _⟩ := h
  exact h1.srt
theorem PlV.cell (h : PlV w gB gL X b ls vs W) {f : Nat} (hf : f < 8) : W.cell? ⟨gL, f, none⟩ = some (vs f) := by
  obtain ⟨Z, _, _, _, _, h5, _⟩ := h
  exact (h5.cell f).trans (arrP_at vs hf)
theorem PlV.frozen (h : PlV w gB gL X b ls vs W) (f : Nat) : W.frozen? ⟨gL, f, none⟩ = false := by
  obtain ⟨Z, _, _, _, _, h5, _⟩ := h
  exact h5.frozen f
theorem PlV.pls (h : PlV w gB gL X b ls vs W) {f : Nat} (hf : f < 9) : Pls W W.heap.size (vs f) (ls f) := by
  obtain ⟨Z, _, _, _, _, _, h6⟩ := h
  exact (h6 f hf).1
theorem PlV.fresh (h : PlV w gB gL X b ls vs W) (hb : Below W.heap.size W W') : PlV w gB gL X b ls vs W' := by
  obtain ⟨Z, h1, h2, h3, h4, h5, h6⟩ := h
  exact ⟨Z, h1.fresh hb, fun k hk => Nat.lt_of_lt_of_le (h2 k hk) hb.size, h3, h4, h5.below hb h5.lt, fun f hf => ⟨(h6 f hf).1.fresh hb, (h6 f hf).2⟩⟩
theorem PlV.mark (h : PlV w gB gL X b ls vs W) (hb : Below W.heap.size W W') {g : Nat} (hg : W.heap.size ≤ g) (hg' : g < W'.heap.size) : PlV w gB gL (fun k => k = g) b ls vs W' := by
  obtain ⟨Z, h1, h2, h3, h4, h5, h6⟩ := h
  exact ⟨fun k => Z k ∨ k = g, h1.widen hb (fun k hk => hk.imp id (fun e => by rw [e]; exact hg)), fun k hk => hk.elim (fun h => Nat.lt_of_lt_of_le (h2 k h) hb.size) (fun e => by rw [e]; exact hg'), ⟨.inl h3.1, fun k hk => .inr hk⟩, h4, h5.below hb h5.lt, fun f hf => ⟨(h6 f hf).1.fresh hb, (h6 f hf).2.1, fun a n c e h0 => .inl ((h6 f hf).2.2.1 a n c e h0), (h6 f hf).2.2.2⟩⟩
theorem PlV.drop (h : PlV w gB gL X b ls vs W) : PlV w gB gL (fun _ => False) b ls vs W := by
  obtain ⟨Z, h1, h2, h3, h4, h5, h6⟩ := h
  exact ⟨Z, h1, h2, ⟨h3.1, fun k hk => hk.elim⟩, h4, h5, h6⟩
theorem PlV.post (h : PlV w gB gL X b ls vs W) {v : Value} {b' : BS} {f : Nat} {args : Array Value}
    (hc : ∀ Z, BkT w W gB b Z → (∀ k, Z k → k < W.heap.size) → Calls Try.prog f args W (BkPost w W gB v b' Z)) :
    Calls Try.prog f args W fun e w' => e = .returned v ∧ PlV w gB gL X b' ls vs w' ∧ (∀ k, k < w.heap.size ∨ X k → w'.heap[k]? = W.heap[k]?) := by
  obtain ⟨Z, h1, h2, h3, h4, h5, h6⟩ := h
  exact (hc Z h1 h2).mono fun e w' ⟨he, k1, k2, k3, k4⟩ => ⟨he, ⟨Z, k1, fun k hk => Nat.lt_of_lt_of_le (h2 k hk) k4, h3, h4, (k2 gL h5.lt h3.1).trans h5, fun f hf => ⟨(h6 f hf).1.keepZ (h6 f hf).2.2.1 k2 k4, (h6 f hf).2⟩⟩, fun k hk => hk.elim (k3 k) (fun hx => k2 k (h2 k (h3.2 k hx)) (h3.2 k hx))⟩
theorem PlV.extra (h : PlV w gB gL X b ls vs W) {v' v : Value} {l : List Pl} (hb : Below W.heap.size W W') (hp : Pls W' W'.heap.size v' l) (hs : Shp v') (ho : OldNew W v v') (f : Nat) (hf : f < 9) (hv : v = vs f) :
    PlV w gB gL X b (upd ls 8 l) (upd vs 8 v') W' := by
  obtain ⟨Z, h1, h2, h3, h4, h5, h6⟩ := h
  refine ⟨fun k => Z k ∨ (W.heap.size ≤ k ∧ k < W'.heap.size), h1.widen hb (fun k hk => hk.imp id (fun h => h.1)), fun k hk => hk.elim (fun h => Nat.lt_of_lt_of_le (h2 k h) hb.size) (fun h => h.2), ⟨.inl h3.1, fun k hk => .inl (h3.2 k hk)⟩, h4, ?_, fun g hg => ?_⟩
  · rw [show arrP (upd vs 8 v') = arrP vs from rfl]
    exact h5.below hb h5.lt
  · by_cases c : g = 8
    · subst c
      rw [upd_same, upd_same]
      refine ⟨hp, hs, hp.newZ ho (by rw [hv]; exact (h6 f hf).2.2.1), fun a n c e h0 => ?_⟩
      rcases ho with ho | ho
      · exact (h6 f hf).2.2.2 a n c (by rw [← hv, ← ho]; exact e) h0
      · have := ho a n c e
        have := h5.lt
        omega
    · rw [upd_other _ _ _ c, upd_other _ _ _ c]
      obtain ⟨k1, k2, k3, k4⟩ := h6 g hg
      exact ⟨k1.fresh hb, k2, fun a n c e h0 => .inl (k3 a n c e h0), k4⟩
theorem PlV.put (h : PlV w gB gL X b ls vs W) {f : Nat} (hf : f < 8) (p : Pl) (hl : (ls f).length ≤ 100000) :
    Calls Try.prog 10 #[vs f, .agg #[.int .i64 p.c, .int .i64 p.g]] W fun e w' => ∃ v', e = .returned v' ∧ PlV w gB gL X b (upd ls 8 (putP (ls f) p)) (upd vs 8 v') w' ∧ Below W.heap.size W w' := by
  have h' := h
  obtain ⟨Z, h1, h2, h3, h4, h5, h6⟩ := h
  obtain ⟨k1, k2, k3, k4⟩ := h6 f (by omega)
  exact (refPut_any _ _ p W k1 k2 hl).mono fun e w' ⟨v', he, ⟨j1, j2, j3⟩, j4⟩ => ⟨v', he, h'.extra j4 j1 j2 j3 f (by omega) rfl, j4⟩
theorem PlV.out (h : PlV w gB gL X b ls vs W) {f : Nat} (hf : f < 8) (p : Pl) (hl : (ls f).length ≤ 100000) :
    Calls Try.prog 11 #[vs f, .agg #[.int .i64 p.c, .int .i64 p.g]] W fun e w' => ∃ v', e = .returned (.tuple #[v', .bool (decide (p ∈ ls f))]) ∧ PlV w gB gL X b (upd ls 8 ((ls f).erase p)) (upd vs 8 v') w' ∧ Below W.heap.size W w' := by
  have h' := h
  obtain ⟨Z, h1, h2, h3, h4, h5, h6⟩ := h
  obtain ⟨k1, k2, k3, k4⟩ := h6 f (by omega)
  exact (refOut_any _ _ p W k1 k2 hl).mono fun e w' ⟨v', he, ⟨j1, j2, j3⟩, j4⟩ => ⟨v', he, h'.extra j4 j1 j2 j3 f (by omega) rfl, j4⟩
theorem PlV.nil_ (h : PlV w gB gL X b ls vs W) : PlV w gB gL X b (upd ls 8 []) (upd vs 8 (.slice none 0 0)) W := by
  obtain ⟨Z, h1, h2, h3, h4, h5, h6⟩ := h
  refine ⟨Z, h1, h2, h3, h4, h5, fun g hg => ?_⟩
  by_cases c : g = 8
  · subst c
    rw [upd_same, upd_same]
    exact ⟨Pls.nil_ _ _, ⟨_, _, _, rfl, .inl rfl⟩, (fun a n c e => by cases e), (fun a n c e => by cases e)⟩
  · rw [upd_other _ _ _ c, upd_other _ _ _ c]
    exact h6 g hg
theorem PlV.store (h : PlV w gB gL X b ls vs W) {f : Nat} (hf : f < 8) : PlV w gB gL X b (upd ls f (ls 8)) (upd vs f (vs 8)) (W.setCell ⟨gL, f, none⟩ (vs 8)) := by
  obtain ⟨Z, h1, h2, h3, h4, h5, h6⟩ := h
  have ho := (Only.refl gL W).setCell f (vs 8)
  have hsz : (W.setCell ⟨gL, f, none⟩ (vs 8)).heap.size = W.heap.size := ho.2
  refine ⟨Z, h1.only ho h3.1 h4, fun k hk => by rw [hsz]; exact h2 k hk, h3, h4, ?_, fun g hg => ?_⟩
  · have := h5.set_ f (vs 8)
    rw [arrP_set vs hf] at this
    exact this
  · have key : ∀ j, j < 9 → GdV (W.setCell ⟨gL, f, none⟩ (vs 8)) Z gL (vs j) (ls j) := fun j hj => by
      obtain ⟨k1, k2, k3, k4⟩ := h6 j hj
      refine ⟨?_, k2, k3, k4⟩
      obtain ⟨A, n, c, e1, e2, e3, e4, e5, e7⟩ := k1
      refine ⟨A, n, c, e1, e2, e3, e4, e5, fun h0 => ?_⟩
      obtain ⟨b', o, e8, hb, hc⟩ := e7 h0
      have hne : b' ≠ gL := k4 ⟨b', o, none⟩ n c (by rw [e1, e8]) h0
      have hh := ho.1.block b' hb (fun e => hne (by injection e))
      exact ⟨b', o, e8, by rw [hsz]; exact hb, fun i hi => ⟨(cell_of_heap hh).trans (hc i hi).1, (cell_of_heap hh).trans (hc i hi).2⟩⟩
    by_cases c : g = f
    · subst c
      rw [upd_same, upd_same]
      exact key 8 (by omega)
    · rw [upd_other _ _ _ c, upd_other _ _ _ c]
      exact key g hg
theorem PlV.of (h : PlV w gB gL X b ls vs W) (f : Int) (wf : W64 f) :
    Calls Try.prog 15 #[.pointer (some ⟨gB, 0, none⟩), .int .i64 f] W fun e w' => ∃ v', e = .returned v' ∧ Pls w' w'.heap.size v' (b f) ∧ Below W.heap.size W w' := by
  obtain ⟨Z, h1, _⟩ := h
  exact (bk_of h1 f wf).mono fun e w' ⟨v', he, hp, _, hb⟩ => ⟨v', he, hp, hb⟩
theorem PlV.places (h : PlV w gB gL X b ls vs W) {f : Nat} (hf : f < 8) {v' : Value} (hp : Pls W W.heap.size v' (ls f)) :
    Calls Try.prog 14 #[v', vs f] W fun e w' => e = .returned (.bool true) ∧ Below W.heap.size W w' :=
  (refPlaces_any v' _ _ _ _ _ W hp (h.pls (by omega))).mono fun e w' ⟨he, hd⟩ => ⟨by rw [he, decide_eq_true rfl], drew_below hd⟩
theorem PlV.frames (h : PlV w gB gL X b ls vs W) (c : Int) (wc : W64 c) (hM : FewM b) :
    Calls Try.prog 17 #[.pointer (some ⟨gB, 0, none⟩), .int .i64 c] W fun e w' => ∃ v l, e = .returned v ∧ Its w' w'.heap.size v l ∧ l.Pairwise (fun x y => x < y) ∧ (∀ f, f ∈ l ↔ ∃ p ∈ b f, p.c = c) ∧ Below W.heap.size W w' := by
  obtain ⟨Z, h1, _⟩ := h
  exact bk_frames h1 c wc hM
end
/-- One act. -/
structure Act13 where
  what : Int
  f : Int
  t : Int
  p : Pl
def Act13At (W : World) (g o : Nat) (x : Act13) : Prop :=
  g < W.heap.size ∧ W.cell? ⟨g, o, none⟩ = some (.int .i64 x.what) ∧ W.cell? ⟨g, o + 1, none⟩ = some (.int .i64 x.f) ∧ W.cell? ⟨g, o + 2, none⟩ = some (.int .i64 x.t) ∧ W.cell? ⟨g, o + 3, none⟩ = some (.int .i64 x.p.c) ∧ W.cell? ⟨g, o + 4, none⟩ = some (.int .i64 x.p.g) ∧ WPl x.p
def Acts13 (w : World) (v : Value) (ps : List Act13) : Prop :=
  ∃ A n c, v = .slice A n c ∧ ps.length = n ∧ n ≤ maxLen ∧ (0 < n → ∃ b off, A = some ⟨b, off, none⟩ ∧ ∀ j x, ps[j]? = some x → Act13At w b (off + j * 5) x)
/-- All places are of the acts; frames are from 0 to 7. -/
def SubB (b : BS) (P : List Pl) : Prop := (∀ f q, q ∈ b f → q ∈ P) ∧ ∀ f : Int, f < 0 ∨ 7 < f → b f = []
theorem SubB.few {b : BS} {P : List Pl} (h : SubB b P) : FewM b := ⟨[0, 1, 2, 3, 4, 5, 6, 7], by simp, fun g hg => by
  have : ¬ (g < 0 ∨ 7 < g) := fun c => hg (h.2 g c)
  simp only [List.mem_cons, List.not_mem_nil, or_false]
  omega⟩
theorem SubB.zero (P : List Pl) : SubB bs0 P := ⟨fun f q h => absurd h List.not_mem_nil, fun f _ => rfl⟩
theorem SubB.upd_ {b : BS} {P : List Pl} (h : SubB b P) {f : Int} {l : List Pl} (hf : 0 ≤ f ∧ f ≤ 7) (hl : ∀ q, q ∈ l → q ∈ P) : SubB (updB b f l) P := by
  refine ⟨fun g q hq => ?_, fun g hg => ?_⟩
  · by_cases c : g = f
    · subst c
      rw [updB_same] at hq
      exact hl q hq
    · rw [updB_other _ _ _ c] at hq
      exact h.1 g q hq
  · rw [updB_other _ _ _ (by omega)]
    exact h.2 g hg
theorem SubB.put {b : BS} {P : List Pl} (h : SubB b P) {f : Int} {p : Pl} (hf : 0 ≤ f ∧ f ≤ 7) (hp : p ∈ P) : SubB (updB b f (putP (b f) p)) P := h.upd_ hf fun q hq => by
  rcases mem_putP.1 hq with rfl | hq
  · exact hp
  · exact h.1 f q hq
theorem SubB.out {b : BS} {P : List Pl} (h : SubB b P) {f : Int} {p : Pl} (hf : 0 ≤ f ∧ f ≤ 7) : SubB (updB b f ((b f).erase p)) P := h.upd_ hf fun q hq => h.1 f q (List.mem_of_mem_erase hq)
theorem SubB.mov {b : BS} {P : List Pl} (h : SubB b P) {f t : Int} (hf : 0 ≤ f ∧ f ≤ 7) (ht : 0 ≤ t ∧ t ≤ 7) : SubB (movB b f t) P := by
  unfold movB
  split
  · refine (h.upd_ ht fun q hq => ?_).upd_ hf fun q hq => absurd hq List.not_mem_nil
    rcases mem_mrgP.1 hq with hq | hq
    · exact h.1 t q hq
    · exact h.1 f q hq
  · exact h
theorem SubB.le {b : BS} {P : List Pl} (h : SubB b P) (hs : ∀ f, SrtP (b f)) (f : Int) : (b f).length ≤ P.length := srt_le (hs f) (h.1 f)
end Go.Proofs.Ytgbkpcmgfjdhdaa
