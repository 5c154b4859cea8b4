/-
  Slots of the call's own and thirty-two lists of places beside them; the acts of layer 16's statements in memory.
  Conditions: none beside swap's contracts.
-/
import Derived.Test.YthfcmfhmaokioaaSwpA
import Derived.Test.YthfcmfhmaokioaaBkO
namespace Go.Proofs.Ythfcmfhmaokioaa
open Go.RowKit
set_option linter.unusedVariables false

theorem nodupLeS : ∀ {l l' : List Pl}, l.Nodup → (∀ x, x ∈ l → x ∈ l') → l.length ≤ l'.length
  | [], _, _, _ => Nat.zero_le _
  | a :: l, l', hn, hs => by
    obtain ⟨h1, h2⟩ := List.nodup_cons.1 hn
    have hm : a ∈ l' := hs a List.mem_cons_self
    have h3 : l.length ≤ (l'.erase a).length := nodupLeS h2 fun x hx => by
      have hne : x ≠ a := fun e => h1 (e ▸ hx)
      exact (List.mem_erase_of_ne hne).2 (hs x (List.mem_cons_of_mem _ hx))
    have h4 := List.length_erase_of_mem hm
    have h5 : 0 < l'.length := List.length_pos_of_mem hm
    rw [List.length_cons]
    omega
theorem srt_leS {l P : List Pl} (h : SrtP l) (hs : ∀ q, q ∈ l → q ∈ P) : l.length ≤ P.length := nodupLeS (List.Pairwise.imp (fun h => h.ne) h) hs
/-- The array of thirty-two lists; the next one is none of it. -/
def arrS (vs : Nat → Value) : Array Value := #[vs 0, vs 1, vs 2, vs 3, vs 4, vs 5, vs 6, vs 7, vs 8, vs 9, vs 10, vs 11, vs 12, vs 13, vs 14, vs 15, vs 16, vs 17, vs 18, vs 19, vs 20, vs 21, vs 22, vs 23, vs 24, vs 25, vs 26, vs 27, vs 28, vs 29, vs 30, vs 31]
theorem arrS_at (vs : Nat → Value) {f : Nat} (hf : f < 32) : (arrS vs)[f]? = some (vs f) := by
  match f, hf with
  | 0, _ | 1, _ | 2, _ | 3, _ | 4, _ | 5, _ | 6, _ | 7, _ | 8, _ | 9, _ | 10, _ | 11, _ | 12, _ | 13, _ | 14, _ | 15, _ | 16, _ | 17, _ | 18, _ | 19, _ | 20, _ | 21, _ | 22, _ | 23, _ | 24, _ | 25, _ | 26, _ | 27, _ | 28, _ | 29, _ | 30, _ | 31, _ => rfl
  | n + 32, h => omega
theorem arrS_set (vs : Nat → Value) {f : Nat} (hf : f < 32) (v : Value) : (arrS vs).setIfInBounds f v = arrS (upd vs f v) := by
  match f, hf with
  | 0, _ | 1, _ | 2, _ | 3, _ | 4, _ | 5, _ | 6, _ | 7, _ | 8, _ | 9, _ | 10, _ | 11, _ | 12, _ | 13, _ | 14, _ | 15, _ | 16, _ | 17, _ | 18, _ | 19, _ | 20, _ | 21, _ | 22, _ | 23, _ | 24, _ | 25, _ | 26, _ | 27, _ | 28, _ | 29, _ | 30, _ | 31, _ => rfl
  | n + 32, h => omega
/-- A list's slice: where it is, and that it is not the array. -/
def GdS (W : World) (Z : Nat → Prop) (gL : Nat) (v : Value) (l : List Pl) : Prop := Pls W W.heap.size v l ∧ Shp v ∧ InZ Z v ∧ ∀ a n c, v = .slice (some a) n c → 0 < n → a.block ≠ gL
def SwV (w : World) (gS gL : Nat) (X : Nat → Prop) (b : SS) (ls : Nat → List Pl) (vs : Nat → Value) (W : World) : Prop :=
  ∃ Z, SwpT w W gS b Z ∧ (∀ k, Z k → k < W.heap.size) ∧ (Z gL ∧ ∀ k, X k → Z k) ∧ w.heap.size ≤ gL ∧ Blk W gL 27 (arrS vs) ∧ ∀ f, f < 33 → GdS W Z gL (vs f) (ls f)
section
variable {w W W' : World} {gS gL : Nat} {X : Nat → Prop} {b : SS} {ls : Nat → List Pl} {vs : Nat → Value}
theorem SwV.bel (h : SwV w gS gL X b ls vs W) : Below w.heap.size w W := by
  obtain ⟨Z, h1, _⟩ := h
  exact h1.bel
theorem SwV.srt (h : SwV w gS gL X b ls vs W) : ∀ f, SrtP (b f) := by
  obtain ⟨Z, h1, _⟩ := h
  exact h1.ok
theorem SwV.cell (h : SwV w gS gL X b ls vs W) {f : Nat} (hf : f < 32) : W.cell? ⟨gL, f, none⟩ = some (vs f) := by
  obtain ⟨Z, _, _, _, _, h5, _⟩ := h
  exact (h5.cell f).trans (arrS_at vs hf)
theorem SwV.frozen (h : SwV w gS gL X b ls vs W) (f : Nat) : W.frozen? ⟨gL, f, none⟩ = false := by
  obtain ⟨Z, _, _, _, _, h5, _⟩ := h
  exact h5.frozen f
theorem SwV.pls (h : SwV w gS gL X b ls vs W) {f : Nat} (hf : f < 33) : Pls W W.heap.size (vs f) (ls f) := by
  obtain ⟨Z, _, _, _, _, _, h6⟩ := h
  exact (h6 f hf).1
theorem SwV.fresh (h : SwV w gS gL X b ls vs W) (hb : Below W.heap.size W W') : SwV w gS gL X b ls vs W' := by
  obtain ⟨Z, h1, h2, h3, h4, h5, h6⟩ := h
  exact ⟨Z, h1.fresh hb, fun k hk => Nat.lt_of_lt_of_le (h2 k hk) hb.size, h3, h4, h5.below hb h5.lt, fun f hf => ⟨(h6 f hf).1.fresh hb, (h6 f hf).2⟩⟩
theorem SwV.mark (h : SwV w gS gL X b ls vs W) (hb : Below W.heap.size W W') {g : Nat} (hg : W.heap.size ≤ g) (hg' : g < W'.heap.size) : SwV w gS gL (fun k => k = g) b ls vs W' := by
  obtain ⟨Z, h1, h2, h3, h4, h5, h6⟩ := h
  exact ⟨fun k => Z k ∨ k = g, h1.widen hb (fun k hk => hk.imp id (fun e => by rw [e]; exact hg)), fun k hk => hk.elim (fun h => Nat.lt_of_lt_of_le (h2 k h) hb.size) (fun e => by rw [e]; exact hg'), ⟨.inl h3.1, fun k hk => .inr hk⟩, h4, h5.below hb h5.lt, fun f hf => ⟨(h6 f hf).1.fresh hb, (h6 f hf).2.1, fun a n c e h0 => .inl ((h6 f hf).2.2.1 a n c e h0), (h6 f hf).2.2.2⟩⟩
theorem SwV.drop (h : SwV w gS gL X b ls vs W) : SwV w gS gL (fun _ => False) b ls vs W := by
  obtain ⟨Z, h1, h2, h3, h4, h5, h6⟩ := h
  exact ⟨Z, h1, h2, ⟨h3.1, fun k hk => hk.elim⟩, h4, h5, h6⟩
theorem SwV.post (h : SwV w gS gL X b ls vs W) {v : Value} {b' : SS} {f : Nat} {args : Array Value}
    (hc : ∀ Z, SwpT w W gS b Z → (∀ k, Z k → k < W.heap.size) → Calls Try.prog f args W (SPost w W gS v b' Z)) :
    Calls Try.prog f args W fun e w' => e = .returned v ∧ SwV w gS gL X b' ls vs w' ∧ (∀ k, k < w.heap.size ∨ X k → w'.heap[k]? = W.heap[k]?) := by
  obtain ⟨Z, h1, h2, h3, h4, h5, h6⟩ := h
  exact (hc Z h1 h2).mono fun e w' ⟨he, k1, k2, k3, k4⟩ => ⟨he, ⟨Z, k1, fun k hk => Nat.lt_of_lt_of_le (h2 k hk) k4, h3, h4, (k2 gL h5.lt h3.1).trans h5, fun f hf => ⟨(h6 f hf).1.keepZ (h6 f hf).2.2.1 k2 k4, (h6 f hf).2⟩⟩, fun k hk => hk.elim (k3 k) (fun hx => k2 k (h2 k (h3.2 k hx)) (h3.2 k hx))⟩
theorem SwV.extra (h : SwV w gS gL X b ls vs W) {v' v : Value} {l : List Pl} (hb : Below W.heap.size W W') (hp : Pls W' W'.heap.size v' l) (hs : Shp v') (ho : OldNew W v v') (f : Nat) (hf : f < 33) (hv : v = vs f) :
    SwV w gS gL X b (upd ls 32 l) (upd vs 32 v') W' := by
  obtain ⟨Z, h1, h2, h3, h4, h5, h6⟩ := h
  refine ⟨fun k => Z k ∨ (W.heap.size ≤ k ∧ k < W'.heap.size), h1.widen hb (fun k hk => hk.imp id (fun h => h.1)), fun k hk => hk.elim (fun h => Nat.lt_of_lt_of_le (h2 k h) hb.size) (fun h => h.2), ⟨.inl h3.1, fun k hk => .inl (h3.2 k hk)⟩, h4, ?_, fun g hg => ?_⟩
  · rw [show arrS (upd vs 32 v') = arrS vs from rfl]
    exact h5.below hb h5.lt
  · by_cases c : g = 32
    · subst c
      rw [upd_same, upd_same]
      refine ⟨hp, hs, hp.newZ ho (by rw [hv]; exact (h6 f hf).2.2.1), fun a n c e h0 => ?_⟩
      rcases ho with ho | ho
      · exact (h6 f hf).2.2.2 a n c (by rw [← hv, ← ho]; exact e) h0
      · have := ho a n c e
        have := h5.lt
        omega
    · rw [upd_other _ _ _ c, upd_other _ _ _ c]
      obtain ⟨k1, k2, k3, k4⟩ := h6 g hg
      exact ⟨k1.fresh hb, k2, fun a n c e h0 => .inl (k3 a n c e h0), k4⟩
theorem SwV.put (h : SwV w gS gL X b ls vs W) {f : Nat} (hf : f < 32) (p : Pl) (hl : (ls f).length ≤ 100000) :
    Calls Try.prog 11 #[vs f, .agg #[.int .i64 p.c, .int .i64 p.g]] W fun e w' => ∃ v', e = .returned v' ∧ SwV w gS gL X b (upd ls 32 (putP (ls f) p)) (upd vs 32 v') w' ∧ Below W.heap.size W w' := by
  have h' := h
  obtain ⟨Z, h1, h2, h3, h4, h5, h6⟩ := h
  obtain ⟨k1, k2, k3, k4⟩ := h6 f (by omega)
  exact (refPut_any _ _ p W k1 k2 hl).mono fun e w' ⟨v', he, ⟨j1, j2, j3⟩, j4⟩ => ⟨v', he, h'.extra j4 j1 j2 j3 f (by omega) rfl, j4⟩
theorem SwV.out (h : SwV w gS gL X b ls vs W) {f : Nat} (hf : f < 32) (p : Pl) (hl : (ls f).length ≤ 100000) :
    Calls Try.prog 12 #[vs f, .agg #[.int .i64 p.c, .int .i64 p.g]] W fun e w' => ∃ v', e = .returned (.tuple #[v', .bool (decide (p ∈ ls f))]) ∧ SwV w gS gL X b (upd ls 32 ((ls f).erase p)) (upd vs 32 v') w' ∧ Below W.heap.size W w' := by
  have h' := h
  obtain ⟨Z, h1, h2, h3, h4, h5, h6⟩ := h
  obtain ⟨k1, k2, k3, k4⟩ := h6 f (by omega)
  exact (refOut_any _ _ p W k1 k2 hl).mono fun e w' ⟨v', he, ⟨j1, j2, j3⟩, j4⟩ => ⟨v', he, h'.extra j4 j1 j2 j3 f (by omega) rfl, j4⟩
theorem SwV.nil_ (h : SwV w gS gL X b ls vs W) : SwV w gS gL X b (upd ls 32 []) (upd vs 32 (.slice none 0 0)) W := by
  obtain ⟨Z, h1, h2, h3, h4, h5, h6⟩ := h
  refine ⟨Z, h1, h2, h3, h4, h5, fun g hg => ?_⟩
  by_cases c : g = 32
  · subst c
    rw [upd_same, upd_same]
    exact ⟨Pls.nil_ _ _, ⟨_, _, _, rfl, .inl rfl⟩, (fun a n c e => by cases e), (fun a n c e => by cases e)⟩
  · rw [upd_other _ _ _ c, upd_other _ _ _ c]
    exact h6 g hg
theorem SwV.store (h : SwV w gS gL X b ls vs W) {f : Nat} (hf : f < 32) : SwV w gS gL X b (upd ls f (ls 32)) (upd vs f (vs 32)) (W.setCell ⟨gL, f, none⟩ (vs 32)) := by
  obtain ⟨Z, h1, h2, h3, h4, h5, h6⟩ := h
  have ho := (Only.refl gL W).setCell f (vs 32)
  have hsz : (W.setCell ⟨gL, f, none⟩ (vs 32)).heap.size = W.heap.size := ho.2
  refine ⟨Z, h1.only ho h3.1 h4, fun k hk => by rw [hsz]; exact h2 k hk, h3, h4, ?_, fun g hg => ?_⟩
  · have := h5.set_ f (vs 32)
    rw [arrS_set vs hf] at this
    exact this
  · have key : ∀ j, j < 33 → GdS (W.setCell ⟨gL, f, none⟩ (vs 32)) Z gL (vs j) (ls j) := fun j hj => by
      obtain ⟨k1, k2, k3, k4⟩ := h6 j hj
      refine ⟨?_, k2, k3, k4⟩
      obtain ⟨A, n, c, e1, e2, e3, e4, e5, e7⟩ := k1
      refine ⟨A, n, c, e1, e2, e3, e4, e5, fun h0 => ?_⟩
      obtain ⟨b', o, e8, hb, hc⟩ := e7 h0
      have hne : b' ≠ gL := k4 ⟨b', o, none⟩ n c (by rw [e1, e8]) h0
      have hh := ho.1.block b' hb (fun e => hne (by injection e))
      exact ⟨b', o, e8, by rw [hsz]; exact hb, fun i hi => ⟨(cell_of_heap hh).trans (hc i hi).1, (cell_of_heap hh).trans (hc i hi).2⟩⟩
    by_cases c : g = f
    · subst c
      rw [upd_same, upd_same]
      exact key 32 (by omega)
    · rw [upd_other _ _ _ c, upd_other _ _ _ c]
      exact key g hg
theorem SwV.of (h : SwV w gS gL X b ls vs W) {f : Nat} (hf : f < 32) :
    Calls Try.prog 15 #[.pointer (some ⟨gS, 0, none⟩), .int .i64 (f : Int)] W fun e w' => ∃ v', e = .returned v' ∧ Pls w' w'.heap.size v' (b f) ∧ Below W.heap.size W w' := by
  obtain ⟨Z, h1, _⟩ := h
  exact (sw_of h1 f hf).mono fun e w' ⟨v', he, hp, _, hb⟩ => ⟨v', he, hp, hb⟩
theorem SwV.take (h : SwV w gS gL X b ls vs W) {r : Option Nat} (hr : TakeIs b r) :
    Calls Try.prog 16 #[.pointer (some ⟨gS, 0, none⟩)] W fun e w' => e = .returned (takeV r) ∧ Below W.heap.size W w' := by
  obtain ⟨Z, h1, _⟩ := h
  exact sw_take h1 hr
theorem SwV.used (h : SwV w gS gL X b ls vs W) :
    Calls Try.prog 17 #[.pointer (some ⟨gS, 0, none⟩)] W fun e w' => e = .returned (.int .i64 ((usedS b 32 : Nat) : Int)) ∧ Below W.heap.size W w' := by
  obtain ⟨Z, h1, _⟩ := h
  exact sw_used h1
theorem SwV.slots (h : SwV w gS gL X b ls vs W) (c : Int) :
    Calls Try.prog 19 #[.pointer (some ⟨gS, 0, none⟩), .int .i64 c] W fun e w' => ∃ v, e = .returned v ∧ Its w' w'.heap.size v (slotsS b c 32) ∧ Below W.heap.size W w' := by
  obtain ⟨Z, h1, _⟩ := h
  exact sw_slots h1 c
theorem SwV.places (h : SwV w gS gL X b ls vs W) {f : Nat} (hf : f < 32) {v' : Value} (hp : Pls W W.heap.size v' (ls f)) :
    Calls Try.prog 14 #[v', vs f] W fun e w' => e = .returned (.bool true) ∧ Below W.heap.size W w' :=
  (refPlaces_any v' _ _ _ _ _ W hp (h.pls (by omega))).mono fun e w' ⟨he, hd⟩ => ⟨by rw [he, decide_eq_true rfl], drew_below hd⟩
end
/-- One act. -/
structure Act16 where
  hold : Bool
  n : Int
  p : Pl
def Act16At (W : World) (g o : Nat) (x : Act16) : Prop :=
  g < W.heap.size ∧ W.cell? ⟨g, o, none⟩ = some (.bool x.hold) ∧ W.cell? ⟨g, o + 1, none⟩ = some (.int .i64 x.n) ∧ W.cell? ⟨g, o + 2, none⟩ = some (.int .i64 x.p.c) ∧ W.cell? ⟨g, o + 3, none⟩ = some (.int .i64 x.p.g)
def Acts16 (w : World) (v : Value) (ps : List Act16) : Prop :=
  ∃ A n c, v = .slice A n c ∧ ps.length = n ∧ n ≤ maxLen ∧ (0 < n → ∃ b off, A = some ⟨b, off, none⟩ ∧ ∀ j x, ps[j]? = some x → Act16At w b (off + j * 4) x)
/-- All places are of the acts. -/
def SubS (b : SS) (P : List Pl) : Prop := ∀ f q, q ∈ b f → q ∈ P
theorem SubS.zero (P : List Pl) : SubS ss0 P := fun f q h => absurd h List.not_mem_nil
theorem SubS.upd_ {b : SS} {P : List Pl} (h : SubS b P) {f : Nat} {l : List Pl} (hl : ∀ q, q ∈ l → q ∈ P) : SubS (updS b f l) P := by
  intro g q hq
  by_cases c : g = f
  · subst c
    rw [updS_same] at hq
    exact hl q hq
  · rw [updS_other _ _ _ c] at hq
    exact h g q hq
theorem SubS.put {b : SS} {P : List Pl} (h : SubS b P) {f : Nat} {p : Pl} (hp : p ∈ P) : SubS (updS b f (putP (b f) p)) P := h.upd_ fun q hq => by
  rcases mem_putP.1 hq with rfl | hq
  · exact hp
  · exact h f q hq
theorem SubS.out {b : SS} {P : List Pl} (h : SubS b P) {f : Nat} {p : Pl} : SubS (updS b f ((b f).erase p)) P := h.upd_ fun q hq => h f q (List.mem_of_mem_erase hq)
theorem SubS.le {b : SS} {P : List Pl} (h : SubS b P) (hs : ∀ f, SrtP (b f)) (f : Nat) : (b f).length ≤ P.length := srt_leS (hs f) (h f)
end Go.Proofs.Ythfcmfhmaokioaa
