/-
  A drawn region in which several things are done in rows that lie apart, in whatever order: shown by what has been done, not by orders. A literal of one element, and an append of it. Nothing of the program is named here.
  Conditions: none beside those that each line bears.
-/
import Derived.Test.YtcfjkppgfjlbbaaApp
import Derived.Test.YtcfjkppgfjlbbaaRwa
import Derived.Deep.RegionHeld3
namespace Go.Proofs.Ytcfjkppgfjlbbaa
open Go.RowKit
set_option linter.unusedVariables false

section
variable {P : Program} {ops : Array Oper} {Q : Exit → Act → World → Prop} {md : Region.Mode} {S : World → Prop}
/-- By what has been done: n operations are left of those that I speaks of. -/
theorem wpAnyH_inv {fuel : Nat} (I : Nat → Array Bool → Act → World → Prop)
    (base : ∀ listed a w, I 0 listed a w → wpAnyH P md ops Q S fuel listed a w)
    (step : ∀ n listed a w, I (n + 1) listed a w → Region.ready md ops listed ≠ [] ∧ ∀ i ∈ Region.ready md ops listed, wpOp P ops Q i (fun a' w' => S w' ∧ I n (listed.setIfInBounds i true) a' w') a w) :
    ∀ n listed a w, I n listed a w → wpAnyH P md ops Q S (fuel + n) listed a w
  | 0, listed, a, w, h => base listed a w h
  | n + 1, listed, a, w, h => by
    obtain ⟨h1, h2⟩ := step n listed a w h
    refine ⟨fun e => absurd e h1, fun i hi => wpOp_mono (fun a' w' h' => ⟨h'.1, ?_⟩) (h2 i hi)⟩
    exact wpAnyH_inv I base step n _ _ _ h'.2
/-- The frame under a name. -/
theorem wpAnyH_name {fuel : Nat} {listed : Array Bool} {a : Act} {w : World} (h : ∀ a0, a = a0 → wpAnyH P md ops Q S fuel listed a0 w) : wpAnyH P md ops Q S fuel listed a w := h a rfl
theorem step_lit {o : Oper} {a : Act} {w : World} {K : Act → World → Prop} {E : Prop} (hgd : o.guard = none) (x : Operand) (t e : TypeId)
    (ho : o.op = .buildSlice t 1 #[(0, x)]) (u : Value) (us : List Value) (hr : ∀ w, (Instr.buildSlice t 1 #[(0, u)]).run P w = .ok (.slice (some ⟨w.heap.size, 0, none⟩) 1 1) (w.alloc (.cells us.toArray e))) (hx : a.eval x = u)
    (h : K (a.put o.dst (.slice (some ⟨w.heap.size, 0, none⟩) 1 1)) (w.alloc (.cells us.toArray e))) : if Region.wanted o (yielded ops a.tmps) = true then Oper.wp P o a w K Q else E := by
  have hw : Region.wanted o (yielded ops a.tmps) = true := by simp [Region.wanted, hgd]
  rw [if_pos hw]
  unfold Oper.wp execOp
  simp only [ho, List.map_toArray, List.map_cons, List.map_nil, hx, Sem.run_bind, hr, Sem.run_pure, Result.andThen_ok]
  exact h
end
theorem put_put (a : Act) (d : Tmp) (u v : Value) : (a.put (some d) u).put (some d) v = a.put (some d) v := by
  unfold Act.put
  simp
theorem put_swap (a : Act) {d d' : Tmp} (h : d ≠ d') (u v : Value) : (a.put (some d) u).put (some d') v = (a.put (some d') v).put (some d) u := by
  unfold Act.put
  simp only [Act.mk.injEq, and_true]
  exact Array.setIfInBounds_comm _ _ h
theorem put_own (a : Act) (d : Tmp) : a.put (some d) (a.tmps.getD d undef) = a := by
  obtain ⟨t, l⟩ := a
  unfold Act.put
  simp only [Act.mk.injEq, and_true]
  apply Array.ext_getElem?
  intro i
  rw [Array.getElem?_setIfInBounds]
  split
  · rename_i h
    subst h
    split
    · rename_i h
      simp [h]
    · rename_i h
      rw [Array.getElem?_eq_none (by omega)]
  · rfl
theorem eval_put (a : Act) {d t : Tmp} (h : d ≠ t) (u : Value) : (a.put (some d) u).eval (.tmp t) = a.eval (.tmp t) := by
  unfold Act.put Act.eval
  simp only [Array.getD_eq_getD_getElem?]
  rw [Array.getElem?_setIfInBounds_ne h]
theorem eval_put_self (a : Act) {d : Tmp} (h : d < a.tmps.size) (u : Value) : (a.put (some d) u).eval (.tmp d) = u := by
  unfold Act.put Act.eval
  simp [h]
/-- What has been done to a row that a literal of one element is to be appended to: bl: the literal is made, ba: it is appended. -/
structure Chain (W0 : World) (base : Nat) (e : TypeId) (size : Nat) (v : Value) (n : Nat) (xs us : List Value) (bl ba : Bool) (ul ua : Value) (W : World) : Prop where
  old : ba = false → RowAt W base size v n xs
  lit : bl = true → ∃ g, ul = .slice (some ⟨g, 0, none⟩) 1 1 ∧ W0.heap.size ≤ g ∧ Blk W g e us.toArray
  app : ba = true → bl = true ∧ RowAt W base size ua (n + 1) (xs ++ us) ∧ (ua.ownBlock = v.ownBlock ∨ ∀ k, ua.ownBlock = some k → W0.heap.size ≤ k)
section
variable {W0 W W' : World} {base size n : Nat} {e : TypeId} {v ul ua : Value} {xs us : List Value} {bl ba : Bool}
theorem Chain.keep (h : Chain W0 base e size v n xs us bl ba ul ua W) {row : Option Nat} (hg : W.grownBy W' row) (hr : ∀ k, row = some k → k < W0.heap.size) (hv : ∀ k, v.ownBlock = some k → row ≠ some k) : Chain W0 base e size v n xs us bl ba ul ua W' := by
  refine ⟨fun h0 => (h.old h0).grown hg hv, fun h0 => ?_, fun h0 => ?_⟩
  · obtain ⟨g, h1, h2, h3⟩ := h.lit h0
    exact ⟨g, h1, h2, (hg.block g h3.lt (fun e => by have := hr g e.symm; omega)).trans h3⟩
  · obtain ⟨h1, h2, h3⟩ := h.app h0
    refine ⟨h1, h2.grown hg (fun k hk e => ?_), h3⟩
    rcases h3 with h3 | h3
    · exact hv k (h3.symm.trans hk) e
    · have := hr k e
      have := h3 k hk
      omega
theorem Chain.doLit (h : Chain W0 base e size v n xs us false false ul ua W) (hs : W0.heap.size ≤ W.heap.size) : Chain W0 base e size v n xs us true false (.slice (some ⟨W.heap.size, 0, none⟩) 1 1) ua (W.alloc (.cells us.toArray e)) :=
  ⟨fun _ => (h.old rfl).fresh ((Below.refl _ _).alloc (Nat.le_refl _) _), fun _ => ⟨_, rfl, hs, Blk.new W e us.toArray⟩, fun h => by cases h⟩
theorem Chain.doApp {P : Program} (h : Chain W0 base e size v n xs us true false ul ua W) (hs : W0.heap.size ≤ W.heap.size) (hv : ∀ k, v.ownBlock = some k → k < W0.heap.size) (hb : base ≤ W0.heap.size) (t ty : TypeId) (i : TypeInfo) (z : Value) (bytes : Nat) (ht : P.underlying t = some (.slice e)) (hi : P.info? e = some i) (hz : i.zero = some z)
    (hsize : i.size = size) (hby : i.bytes = bytes) (hzs : z.cells.size = size) (hsz : 0 < size) (hl : us.length = size) (h1 : ∀ u ∈ us, u.oneCell' = true) (h63 : n + 1 ≤ maxLen) (hbytes : (n + 1) * bytes ≤ 140737488355328) :
    ∃ v' W', (Builtin.append_ #[t, t] ty #[v, ul]).run P W = .ok v' W' ∧ Chain W0 base e size v n xs us true true ul v' W' ∧ W.grownBy W' v.ownBlock ∧ (v'.ownBlock = v.ownBlock ∨ ∀ k, v'.ownBlock = some k → W.heap.size ≤ k) := by
  obtain ⟨g, rfl, h2, h3⟩ := h.lit rfl
  obtain ⟨v', w', r, o, gr, hd⟩ := run_append_at (P := P) base t ty e i z size bytes ht hi hz hsize hby hzs hsz v n xs (h.old rfl) ⟨g, 0, none⟩ 1 us hl (fun j u hj => by rw [Addr.add_lit, Nat.zero_add, h3.cell j]; simpa using hj) h1 h63 hbytes (Nat.le_trans hb hs)
  refine ⟨v', w', r, ⟨fun h => (by cases h), fun _ => ⟨g, rfl, h2, (gr.block g h3.lt (fun e => by have := hv g e.symm; omega)).trans h3⟩, fun _ => ⟨rfl, o, ?_⟩⟩, gr, hd⟩
  rcases hd with hd | hd
  · exact .inl hd
  · exact .inr fun k hk => Nat.le_trans hs (hd k hk)
end
/-- The first ones of a row, and those behind. -/
theorem RowAt.take_ {w : World} {base size n k c : Nat} {A : Option Addr} {xs : List Value} (h : RowAt w base size (.slice A n c) n xs) (hk : k ≤ n) : Rd w size (.slice A k c) k (xs.take (k * size)) := by
  obtain ⟨h1, h2, ⟨h, rfl⟩ | ⟨g, o, cap, he, h3, h4, h5, h6, h7, h8⟩⟩ := h
  · obtain rfl : k = 0 := by omega
    exact ⟨A, c, rfl, by simp, fun u hu => h2 u (List.mem_of_mem_take hu), fun h => absurd h (Nat.lt_irrefl _)⟩
  · cases he
    refine ⟨_, _, rfl, by rw [List.length_take, h1]; exact Nat.min_eq_left (Nat.mul_le_mul_right _ hk), fun u hu => h2 u (List.mem_of_mem_take hu), fun _ => ⟨g, o, rfl, fun j u hu => ?_⟩⟩
    rw [List.getElem?_take] at hu
    split at hu
    · exact h7 j u hu
    · cases hu
theorem RowAt.drop_ {w : World} {base size n k m g o c : Nat} {xs : List Value} (h : RowAt w base size (.slice (some ⟨g, o, none⟩) n c) n xs) (hk : k + m = n) (c' : Nat) : Rd w size (.slice (some ⟨g, o + k * size, none⟩) m c') m (xs.drop (k * size)) := by
  obtain ⟨h1, h2, ⟨h, _⟩ | ⟨g, o, cap, he, h3, h4, h5, h6, h7, h8⟩⟩ := h
  · cases h
  · cases he
    refine ⟨_, _, rfl, by rw [List.length_drop, h1, ← hk, Nat.add_mul]; omega, fun u hu => h2 u (List.mem_of_mem_drop hu), fun _ => ⟨g, _, rfl, fun j u hu => ?_⟩⟩
    rw [List.getElem?_drop] at hu
    rw [Nat.add_assoc]
    exact h7 _ u hu
theorem RowAt.store_ {w : World} {base n i g o c : Nat} {xs : List Value} (h : RowAt w base 1 (.slice (some ⟨g, o, none⟩) n c) n xs) (hi : i < n) (u : Value) (hu : u.oneCell' = true) : RowAt (w.setCell ⟨g, o + i, none⟩ u) base 1 (.slice (some ⟨g, o, none⟩) n c) n (xs.set i u) := by
  obtain ⟨h1, h2, ⟨h, _⟩ | ⟨g, o, cap, he, h3, h4, h5, h6, h7, h8⟩⟩ := h
  · cases h
  · cases he
    have hsm := (h8 i (by omega)).1
    have hne : ∀ j, j ≠ i → (⟨g, o + i, none⟩ : Addr) ≠ ⟨g, o + j, none⟩ := fun j e h => e (by injection h with _ h; omega)
    refine ⟨by rw [List.length_set]; exact h1, fun x hx => ?_, .inr ⟨g, o, c, rfl, h3, h4, h5, ?_, fun j x hx => ?_, fun j hj => ⟨?_, ?_⟩⟩⟩
    · rcases List.mem_or_eq_of_mem_set hx with hx | rfl
      · exact h2 x hx
      · exact hu
    · rw [((Only.refl g w).setCell (o + i) u).2]
      exact h6
    · by_cases e : j = i
      · subst e
        rw [List.getElem?_set_self (by omega)] at hx
        rw [World.cell?_setCell_same' w ⟨g, o + j, none⟩ u hsm]
        exact hx
      · rw [List.getElem?_set_ne (fun h => e h.symm)] at hx
        rw [World.cell?_setCell_other w ⟨g, o + i, none⟩ ⟨g, o + j, none⟩ u (hne j e)]
        exact h7 j x hx
    · by_cases e : j = i
      · subst e
        rw [World.cell?_setCell_same' w ⟨g, o + j, none⟩ u hsm]
        rfl
      · rw [World.cell?_setCell_other w ⟨g, o + i, none⟩ ⟨g, o + j, none⟩ u (hne j e)]
        exact (h8 j hj).1
    · rw [World.frozen?_setCell]
      exact (h8 j hj).2
theorem RowAt.cap_ {w : World} {base size n c : Nat} {a : Addr} {xs : List Value} (h : RowAt w base size (.slice (some a) n c) n xs) : n ≤ c ∧ c ≤ 9223372036854775807 := by
  obtain ⟨h1, h2, ⟨h, _⟩ | ⟨g, o, cap, he, h3, h4, h5, h6, h7, h8⟩⟩ := h
  · cases h
  · cases he
    exact ⟨h3, by unfold maxLen at h4; omega⟩
theorem RowAt.frozen_ {w : World} {base size n c g o i : Nat} {xs : List Value} (h : RowAt w base size (.slice (some ⟨g, o, none⟩) n c) n xs) (hi : i < n * size) : w.frozen? ⟨g, o + i, none⟩ = false := by
  obtain ⟨h1, h2, ⟨h, _⟩ | ⟨g, o, cap, he, h3, h4, h5, h6, h7, h8⟩⟩ := h
  · cases h
  · cases he
    exact (h8 i (Nat.lt_of_lt_of_le hi (Nat.mul_le_mul_right _ h3))).2
end Go.Proofs.Ytcfjkppgfjlbbaa
