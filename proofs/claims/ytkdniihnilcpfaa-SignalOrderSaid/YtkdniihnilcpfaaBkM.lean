/-
  Slices of places in memory: read, cut, and what append makes of them. Nothing of the program is named here.
  Conditions: none beside those that each line bears.
-/
import Derived.Test.YtkdniihnilcpfaaBkP
import Derived.Test.YtkdniihnilcpfaaApp
namespace Go.Proofs.Ytkdniihnilcpfaa
open Go.RowKit
set_option linter.unusedVariables false

def pl0 : Pl := ⟨0, 0⟩
def plV (p : Pl) : Array Value := #[.int .i64 p.c, .int .i64 p.g]
/-- The cells of places, one behind the other. -/
def flatP : List Pl → List Value
  | [] => []
  | p :: l => .int .i64 p.c :: .int .i64 p.g :: flatP l
theorem flatP_length (l : List Pl) : (flatP l).length = l.length * 2 := by
  induction l with
  | nil => rfl
  | cons p l ih => show (flatP l).length + 1 + 1 = (l.length + 1) * 2; omega
theorem flatP_append (l m : List Pl) : flatP (l ++ m) = flatP l ++ flatP m := by
  induction l with
  | nil => rfl
  | cons p l ih => show _ :: _ :: flatP (l ++ m) = _; rw [ih]; rfl
theorem flatP_at {l : List Pl} {j : Nat} (h : j < l.length) : (flatP l)[j * 2]? = some (.int .i64 (l.getD j pl0).c) ∧ (flatP l)[j * 2 + 1]? = some (.int .i64 (l.getD j pl0).g) := by
  induction l generalizing j with
  | nil => exact absurd h (Nat.not_lt_zero _)
  | cons p l ih =>
    cases j with
    | zero => exact ⟨rfl, rfl⟩
    | succ j =>
      have h' : j < l.length := by simpa using h
      obtain ⟨h1, h2⟩ := ih h'
      refine ⟨?_, ?_⟩
      · rw [show (j + 1) * 2 = j * 2 + 1 + 1 by omega]
        exact h1
      · rw [show (j + 1) * 2 + 1 = j * 2 + 1 + 1 + 1 by omega]
        exact h2
theorem flatP_one (l : List Pl) : ∀ u ∈ flatP l, u.oneCell' = true := by
  induction l with
  | nil => exact fun u h => absurd h List.not_mem_nil
  | cons p l ih =>
    intro u hu
    rcases List.mem_cons.1 hu with rfl | hu
    · rfl
    · rcases List.mem_cons.1 hu with rfl | hu
      · rfl
      · exact ih u hu
theorem flatP_cell {w : World} {b o n : Nat} {l : List Pl} (hl : l.length = n) (h : ∀ j, j < n → w.cell? ⟨b, o + j * 2, none⟩ = some (.int .i64 (l.getD j pl0).c) ∧ w.cell? ⟨b, o + j * 2 + 1, none⟩ = some (.int .i64 (l.getD j pl0).g)) (i : Nat) (u : Value) (hu : (flatP l)[i]? = some u) : w.cell? ⟨b, o + i, none⟩ = some u := by
  have hi : i < l.length * 2 := by
    rw [← flatP_length]
    exact (List.getElem?_eq_some_iff.1 hu).1
  obtain ⟨j, hj⟩ : ∃ j, j = i / 2 := ⟨_, rfl⟩
  have hj' : j < l.length := by omega
  obtain ⟨h1, h2⟩ := flatP_at hj'
  obtain ⟨k1, k2⟩ := h j (by omega)
  by_cases c : i % 2 = 0
  · obtain rfl : i = j * 2 := by omega
    rw [hu] at h1
    rw [k1, h1]
  · obtain rfl : i = j * 2 + 1 := by omega
    rw [hu] at h2
    rw [show o + (j * 2 + 1) = o + j * 2 + 1 by omega, k2, h2]
/-- A slice of places, in memory below block B. -/
def Pls (w : World) (B : Nat) (v : Value) (l : List Pl) : Prop :=
  ∃ A n c, v = .slice A n c ∧ l.length = n ∧ n ≤ c ∧ c ≤ maxLen ∧ (A = none → c = 0) ∧ (0 < n → ∃ b o, A = some ⟨b, o, none⟩ ∧ b < B ∧ ∀ j, j < n → w.cell? ⟨b, o + j * 2, none⟩ = some (.int .i64 (l.getD j pl0).c) ∧ w.cell? ⟨b, o + j * 2 + 1, none⟩ = some (.int .i64 (l.getD j pl0).g))
section
variable {w w' : World} {B B' : Nat} {v : Value} {l : List Pl}
theorem Pls.keep (h : Pls w B v l) (hk : ∀ p : Addr, p.block < B → w'.cell? p = w.cell? p) : Pls w' B v l := by
  obtain ⟨A, n, c, h1, h2, h3, h4, h5, h7⟩ := h
  refine ⟨A, n, c, h1, h2, h3, h4, h5, fun h0 => ?_⟩
  obtain ⟨b, o, e, hb, hc⟩ := h7 h0
  exact ⟨b, o, e, hb, fun j hj => ⟨(hk _ hb).trans (hc j hj).1, (hk _ hb).trans (hc j hj).2⟩⟩
theorem Pls.below (h : Pls w B v l) (hb : Below B w w') : Pls w' B v l := h.keep fun _ hp => hb.cell hp
theorem Pls.more (h : Pls w B v l) (hB : B ≤ B') : Pls w B' v l := by
  obtain ⟨A, n, c, h1, h2, h3, h4, h5, h7⟩ := h
  refine ⟨A, n, c, h1, h2, h3, h4, h5, fun h0 => ?_⟩
  obtain ⟨b, o, e, hb, hc⟩ := h7 h0
  exact ⟨b, o, e, by omega, hc⟩
theorem Pls.fresh (h : Pls w w.heap.size v l) (hb : Below w.heap.size w w') : Pls w' w'.heap.size v l := (h.below hb).more hb.size
theorem Pls.nil_ (w : World) (B : Nat) : Pls w B (.slice none 0 0) [] := ⟨none, 0, 0, rfl, rfl, Nat.le_refl _, by simp [maxLen], fun _ => rfl, fun h => absurd h (Nat.lt_irrefl _)⟩
theorem Pls.of_own {base n : Nat} {e : TypeId} (h : w.ownsRow base e 2 v n (flatP l)) (hn : l.length = n) : Pls w w.heap.size v l := by
  have hlt := fun k hk => (h.lt k hk).2
  rcases h.2 with ⟨rfl, rfl⟩ | ⟨g, cap, cur, rfl, _, _, h3, h4, _⟩
  · obtain rfl : l = [] := List.eq_nil_of_length_eq_zero hn
    exact Pls.nil_ _ _
  · refine ⟨some ⟨g, 0, none⟩, n, cap, rfl, hn, h3, h4, fun h => (by cases h), fun h0 => ⟨g, 0, rfl, hlt g rfl, fun j hj => ?_⟩⟩
    have hc := h.cells (g := g) rfl
    obtain ⟨k1, k2⟩ := flatP_at (l := l) (j := j) (by omega)
    have e1 := hc _ _ k1
    have e2 := hc _ _ k2
    rw [Addr.add_lit] at e1 e2
    exact ⟨e1, e2⟩
/-- The first ones. -/
theorem Pls.take {A : Option Addr} {n c : Nat} (h : Pls w B (.slice A n c) l) (k : Nat) (hk : k ≤ n) : Rd w 2 (.slice A k c) k (flatP (l.take k)) := by
  obtain ⟨A', n', c', e, h2, h3, h4, h5, h7⟩ := h
  injection e with e1 e2 e3
  subst e1 e2 e3
  have hl : (l.take k).length = k := by rw [List.length_take]; omega
  refine ⟨A, c, rfl, by rw [flatP_length, hl], flatP_one _, fun h0 => ?_⟩
  obtain ⟨b, o, e, hb, hc⟩ := h7 (by omega)
  refine ⟨b, o, e, fun j u hu => flatP_cell hl (fun j hj => ?_) j u hu⟩
  have := hc j (by omega)
  rw [List.getD_eq_getElem?_getD, List.getElem?_take_of_lt hj, ← List.getD_eq_getElem?_getD]
  exact this
/-- Those behind. -/
theorem Pls.drop {b o n c : Nat} (h : Pls w B (.slice (some ⟨b, o, none⟩) n c) l) (k m : Nat) (hk : k + m = n) (c' : Nat) : Rd w 2 (.slice (some ⟨b, o + k * 2, none⟩) m c') m (flatP (l.drop k)) := by
  obtain ⟨A', n', c2, e, h2, h3, h4, h5, h7⟩ := h
  injection e with e1 e2 e3
  subst e1 e2 e3
  have hl : (l.drop k).length = m := by rw [List.length_drop]; omega
  refine ⟨_, _, rfl, by rw [flatP_length, hl], flatP_one _, fun h0 => ?_⟩
  obtain ⟨b', o', e, hb, hc⟩ := h7 (by omega)
  injection e with e
  injection e with e1 e2
  subst e1 e2
  refine ⟨b, o + k * 2, rfl, fun j u hu => flatP_cell hl (fun j hj => ?_) j u hu⟩
  have := hc (k + j) (by omega)
  rw [List.getD_eq_getElem?_getD, List.getElem?_drop, ← List.getD_eq_getElem?_getD, show o + k * 2 + j * 2 = o + (k + j) * 2 by omega]
  exact this
theorem Rd.zero (w : World) (A : Option Addr) (c size : Nat) : Rd w size (.slice A 0 c) 0 [] := ⟨A, c, rfl, by simp, fun u h => absurd h List.not_mem_nil, fun h => absurd h (Nat.lt_irrefl _)⟩
end
theorem belAl {w W : World} (h : Below w.heap.size w W) (o : Obj) : Below w.heap.size w (W.alloc o) := h.alloc h.size o
theorem cell_of_heap {w w' : World} {k i : Nat} (h : w'.heap[k]? = w.heap[k]?) : w'.cell? ⟨k, i, none⟩ = w.cell? ⟨k, i, none⟩ := by
  unfold World.cell?
  simp only [h]
/-- What was there, or what is in memory of its own. -/
def OldNew (w : World) (v v' : Value) : Prop := v' = v ∨ ∀ a n c, v' = .slice (some a) n c → w.heap.size ≤ a.block
theorem own_new {w : World} {base size n B : Nat} {e : TypeId} {v : Value} {xs : List Value} (h : w.ownsRow base e size v n xs) (hb : B ≤ base) : ∀ a n' c, v = .slice (some a) n' c → B ≤ a.block := by
  intro a n' c e
  rcases h.2 with ⟨rfl, _⟩ | ⟨g, cap, cur, rfl, hg, _⟩
  · cases e
  · injection e with e _ _
    injection e with e
    rw [← e]
    exact Nat.le_trans hb hg
/-- A slice's block is one of Z. -/
def InZ (Z : Nat → Prop) (v : Value) : Prop := ∀ a n c, v = .slice (some a) n c → 0 < n → Z a.block
theorem Pls.keepZ {w w' : World} {v : Value} {l : List Pl} {Z : Nat → Prop} (h : Pls w w.heap.size v l) (hz : InZ Z v) (hk : ∀ k, k < w.heap.size → Z k → w'.heap[k]? = w.heap[k]?) (hs : w.heap.size ≤ w'.heap.size) : Pls w' w'.heap.size v l := by
  obtain ⟨A, n, c, rfl, h2, h3, h4, h5, h7⟩ := h
  refine ⟨A, n, c, rfl, h2, h3, h4, h5, fun h0 => ?_⟩
  obtain ⟨b, o, rfl, hb, hc⟩ := h7 h0
  have e := hk b hb (hz _ _ _ rfl h0)
  exact ⟨b, o, rfl, Nat.lt_of_lt_of_le hb hs, fun j hj => ⟨(cell_of_heap e).trans (hc j hj).1, (cell_of_heap e).trans (hc j hj).2⟩⟩
theorem Pls.newZ {w w' : World} {v v' : Value} {l : List Pl} {Z : Nat → Prop} (h : Pls w' w'.heap.size v' l) (ho : OldNew w v v') (hz : InZ Z v) : InZ (fun k => Z k ∨ (w.heap.size ≤ k ∧ k < w'.heap.size)) v' := by
  intro a n c e h0
  obtain ⟨A, n', c', e', h2, h3, h4, h5, h7⟩ := h
  rw [e] at e'
  injection e' with e1 e2 e3
  obtain ⟨b, o, e4, hb, _⟩ := h7 (by omega)
  rw [← e1] at e4
  injection e4 with e4
  rcases ho with rfl | ho
  · exact .inl (hz _ _ _ e h0)
  · exact .inr ⟨ho _ _ _ e, by rw [e4]; exact hb⟩
end Go.Proofs.Ytkdniihnilcpfaa
