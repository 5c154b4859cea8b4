/-
  Lists of lists of bytes, one appended to another: what append answers, for an operation that a drawn region holds. Nothing of the program is named here.
  Conditions: none beside those that each line bears.
-/
import Derived.Test.YthoolcnecphihaaLst
namespace Go.Proofs.Ythoolcnecphihaa
open Go.RowKit
set_option linter.unusedVariables false

section
variable {P : Program} {w : World}
theorem run_append_lst (t ty : TypeId) (M : Nat → Prop) (lo base : Nat) (e : TypeId) (i : TypeInfo) (ht : P.underlying t = some (.slice e)) (hi : P.info? e = some i) (hz : i.zero = some (.slice none 0 0)) (hsize : i.size = 1) (hby : i.bytes = 24)
    (v : Value) (xss : List (List Nat)) (hl : Lst w M lo base e v xss) (ad : Addr) (m c : Nat) (us : List Value) (yss : List (List Nat)) (hm : us.length = m) (hm' : yss.length = m)
    (hc : ∀ j u, us[j]? = some u → w.cell? (ad.add j) = some u) (hu : ∀ j, j < m → ∃ u, us[j]? = some u ∧ El w M lo e u (yss.getD j []))
    (hfew : xss.length + m ≤ 1000000) (hbase : base ≤ w.heap.size) (hlo : lo ≤ base) :
    ∃ v' w', (Builtin.append_ #[t, t] ty #[v, .slice (some ad) m c]).run P w = .ok v' w' ∧ Lst w' M lo base e v' (xss ++ yss) ∧ w.grownBy w' v.ownBlock := by
  obtain ⟨vs, hown, h3⟩ := hl
  have hvl : vs.length = xss.length := by have := hown.1; omega
  have h1 : ∀ u ∈ us, u.oneCell' = true := by
    intro u hmem
    obtain ⟨j, hj, hje⟩ := List.getElem_of_mem hmem
    obtain ⟨u', h4, h5⟩ := hu j (by omega)
    rw [List.getElem?_eq_getElem hj, hje] at h4
    injection h4 with h4
    subst h4
    obtain ⟨A, n, c, rfl, _⟩ := h5
    rfl
  obtain ⟨v', w', hr, h4, h5, _⟩ := run_append_own (P := P) w base t ty e i _ 1 24 ht hi hz hsize hby rfl (by omega) v _ vs hown ad m c us (by simp [hm]) hc h1 (by unfold maxLen; omega) (by omega) hbase
  refine ⟨v', w', hr, ⟨vs ++ us, by rw [List.length_append, hm']; exact h4, fun j hj => ?_⟩, h5⟩
  have hkeep : ∀ u ys, El w M lo e u ys → El w' M lo e u ys := by
    intro u ys hel
    refine hel.kept h5.size fun b b1 b2 b3 => h5.block b b1 (fun eb => ?_)
    rcases hown.2 with ⟨rfl, _⟩ | ⟨g, cap, cur, rfl, hg1, hg2, _⟩
    · simp [Value.ownBlock] at eb
    · simp only [Value.ownBlock, Option.some.injEq] at eb
      subst eb
      rcases b3 with b3 | ⟨cs, t', fr, b4, b5⟩
      · omega
      · rw [hg2] at b4
        injection b4 with b4
        injection b4 with _ b6 _
        exact b5 b6.symm
  rw [List.length_append] at hj
  simp only [List.getD_eq_getElem?_getD]
  by_cases hjl : j < xss.length
  · obtain ⟨u, h6, h7⟩ := h3 j hjl
    refine ⟨u, by rw [List.getElem?_append_left (by omega)]; exact h6, ?_⟩
    rw [List.getElem?_append_left hjl, ← List.getD_eq_getElem?_getD]
    exact hkeep _ _ h7
  · obtain ⟨u, h6, h7⟩ := hu (j - xss.length) (by omega)
    refine ⟨u, by rw [List.getElem?_append_right (by omega), hvl]; exact h6, ?_⟩
    rw [List.getElem?_append_right (by omega), ← List.getD_eq_getElem?_getD]
    exact hkeep _ _ h7
/-- All of another such list. -/
theorem run_append_all (t ty : TypeId) (M : Nat → Prop) (lo base base2 : Nat) (e : TypeId) (i : TypeInfo) (ht : P.underlying t = some (.slice e)) (hi : P.info? e = some i) (hz : i.zero = some (.slice none 0 0)) (hsize : i.size = 1) (hby : i.bytes = 24)
    (v : Value) (xss : List (List Nat)) (hl : Lst w M lo base e v xss) (u : Value) (yss : List (List Nat)) (hu : Lst w M lo base2 e u yss)
    (hfew : xss.length + yss.length ≤ 1000000) (hbase : base ≤ w.heap.size) (hlo : lo ≤ base) :
    ∃ v' w', (Builtin.append_ #[t, t] ty #[v, u]).run P w = .ok v' w' ∧ Lst w' M lo base e v' (xss ++ yss) ∧ w.grownBy w' v.ownBlock := by
  obtain ⟨us, hown, hel⟩ := hu
  have hul : us.length = yss.length := by have := hown.1; omega
  have hown' := hown
  rcases hown.2 with ⟨rfl, h0⟩ | ⟨g, cap, cur, rfl, _⟩
  · have hy : yss = [] := List.eq_nil_of_length_eq_zero h0
    subst hy
    obtain ⟨vs, hv, h3⟩ := hl
    exact ⟨v, w, run_append_owned_none w base t ty e i 1 ht hi v _ vs hv, ⟨vs, by simpa using hv, fun j hj => by simpa using h3 j (by simpa using hj)⟩, World.grownBy.refl _ _⟩
  · exact run_append_lst t ty M lo base e i ht hi hz hsize hby v xss hl ⟨g, 0, none⟩ yss.length cap us yss hul rfl (hown'.cells (g := g) rfl) hel hfew hbase hlo
theorem step_append_run {ops : Array Oper} {o : Oper} {a : Act} {K : Act → World → Prop} {Q : Exit → Act → World → Prop} {E : Prop} (hgd : o.guard = none) (s x : Operand) (t : TypeId)
    (ho : o.op = .call { callee := .builtin .append, args := #[s, x], argTypes := #[t, t] }) (v u : Value) (hs : a.eval s = v) (hx : a.eval x = u) (v' : Value) (w' : World) (hr : (Builtin.append_ #[t, t] o.type #[v, u]).run P w = .ok v' w')
    (h : K (a.put o.dst v') w') : if Region.wanted o (yielded ops a.tmps) = true then Oper.wp P o a w K Q else E := by
  have hw : Region.wanted o (yielded ops a.tmps) = true := by simp [Region.wanted, hgd]
  rw [if_pos hw]
  unfold Oper.wp execOp
  simp only [ho, resolve, invoke, builtin, Sem.run_bind, Sem.run_pure, Result.andThen_ok, List.map_toArray, List.map_cons, List.map_nil, hs, hx, hr]
  exact h
/-- An empty list that the call has made. -/
theorem Lst.lit (w : World) (M : Nat → Prop) (lo base : Nat) (e : TypeId) (hb : base ≤ w.heap.size) : Lst (w.alloc (.cells #[] e)) M lo base e (.slice (some ⟨w.heap.size, 0, none⟩) 0 0) [] := by
  have h := World.ownsRow_lit (base := base) (e := e) (size := 1) w #[] 0 hb (by simp [maxLen]) rfl
  exact ⟨[], by simpa using h, fun j hj => absurd hj (by simp)⟩
end

theorem Lst.below_of {w w' : World} {M : Nat → Prop} {lo base : Nat} {e : TypeId} {v : Value} {xss : List (List Nat)} (h : Lst w M lo base e v xss) (hg : w.grownBy w' v.ownBlock) (hb : base ≤ w.heap.size) : Below base w w' := by
  obtain ⟨vs, hown, _⟩ := h
  exact (Below.refl base w).grown hg hb (fun k hk => (hown.lt k hk).1)

theorem one_el {wr w' : World} {M : Nat → Prop} {lo : Nat} {e : TypeId} {u : Value} {x : List Nat} (hu : ∀ w', Below wr.heap.size wr w' → El w' M lo e u x) (h : Below wr.heap.size wr w') : ∀ j, j < 1 → ∃ u', ([u])[j]? = some u' ∧ El w' M lo e u' (([x]).getD j []) := by
  intro j hj
  obtain rfl : j = 0 := by omega
  exact ⟨u, rfl, hu _ h⟩
/-! ### 'append(append([][]byte{}, now...), u)', in whatever order the two literals are laid -/
section
variable {P : Program} {wr : World} (t ty ty' e : TypeId) (M : Nat → Prop) (lo base : Nat) (i : TypeInfo) (ht : P.underlying t = some (.slice e)) (hi : P.info? e = some i) (hz : i.zero = some (.slice none 0 0)) (hsize : i.size = 1) (hby : i.bytes = 24)
  (nv : Value) (ys : List (List Nat)) (hl : Lst wr M lo base e nv ys) (u : Value) (x : List Nat) (hu : ∀ w', Below wr.heap.size wr w' → El w' M lo e u x) (hM : ∀ k, M k → k < base) (hfew : ys.length + 1 ≤ 1000000) (hbase : base ≤ wr.heap.size) (hlo : lo ≤ base)
include ht hi hz hsize hby hl hu hM hfew hbase hlo
theorem order_a : ∃ v2 w2 v8 w8, (Builtin.append_ #[t, t] ty #[.slice (some ⟨wr.heap.size, 0, none⟩) 0 0, nv]).run P (wr.alloc (.cells #[] e)).drew = .ok v2 w2 ∧
    (Builtin.append_ #[t, t] ty' #[v2, .slice (some ⟨w2.heap.size, 0, none⟩) 1 1]).run P (w2.alloc (.cells #[u] e)) = .ok v8 w8 ∧ Below wr.heap.size wr w2 ∧ Below wr.heap.size wr w8 ∧ Lst w8 M lo base e v8 (ys ++ [x]) := by
  have b1 : Below wr.heap.size wr (wr.alloc (.cells #[] e)).drew := ((Below.refl _ _).alloc (Nat.le_refl _) _).drew
  have l1 : Lst (wr.alloc (.cells #[] e)).drew M lo wr.heap.size e (.slice (some ⟨wr.heap.size, 0, none⟩) 0 0) [] := (Lst.lit wr M lo wr.heap.size e (Nat.le_refl _)).turns (fun k hk => by have := hM k hk; omega) (Turns.refl M _).drew
  have l2 : Lst (wr.alloc (.cells #[] e)).drew M lo base e nv ys := hl.turns hM (Turns.of_below b1 (Nat.le_refl _))
  obtain ⟨v2, w2, r2, l3, g2⟩ := run_append_all (P := P) t ty M lo wr.heap.size base e i ht hi hz hsize hby _ [] l1 nv ys l2 (by simp; omega) b1.size (by omega)
  have b2 := b1.trans (l1.below_of g2 b1.size)
  have b3 : Below wr.heap.size wr (w2.alloc (.cells #[u] e)) := b2.alloc b2.size _
  have l4 := l3.alloc (fun k hk => by have := hM k hk; omega) (.cells #[u] e)
  obtain ⟨v8, w8, r8, l8, g8⟩ := run_append_lst (P := P) t ty' M lo wr.heap.size e i ht hi hz hsize hby v2 _ l4 ⟨w2.heap.size, 0, none⟩ 1 1 [u] [x] rfl rfl (by
    intro j u' hj
    match j, hj with
    | 0, hj =>
      simp at hj
      subst hj
      simp [Addr.add]) (one_el hu b3) (by simp; omega) b3.size (by omega)
  refine ⟨v2, w2, v8, w8, r2, r8, b2, b3.trans (l4.below_of g8 b3.size), ?_⟩
  have h := l8.lower hbase
  simpa using h
theorem order_b : ∃ v2 w2 v8 w8, (Builtin.append_ #[t, t] ty #[.slice (some ⟨wr.heap.size, 0, none⟩) 0 0, nv]).run P ((wr.alloc (.cells #[] e)).alloc (.cells #[u] e)).drew = .ok v2 w2 ∧
    (Builtin.append_ #[t, t] ty' #[v2, .slice (some ⟨wr.heap.size + 1, 0, none⟩) 1 1]).run P w2 = .ok v8 w8 ∧ Below wr.heap.size wr w2 ∧ Below wr.heap.size wr w8 ∧ Lst w8 M lo base e v8 (ys ++ [x]) := by
  have b1 : Below wr.heap.size wr ((wr.alloc (.cells #[] e)).alloc (.cells #[u] e)).drew := (((Below.refl _ _).alloc (Nat.le_refl _) _).alloc (by simp) _).drew
  have l1 : Lst ((wr.alloc (.cells #[] e)).alloc (.cells #[u] e)).drew M lo wr.heap.size e (.slice (some ⟨wr.heap.size, 0, none⟩) 0 0) [] := (Lst.lit wr M lo wr.heap.size e (Nat.le_refl _)).turns (fun k hk => by have := hM k hk; omega) ((Turns.refl M _).alloc _).drew
  have l2 : Lst ((wr.alloc (.cells #[] e)).alloc (.cells #[u] e)).drew M lo base e nv ys := hl.turns hM (Turns.of_below b1 (Nat.le_refl _))
  obtain ⟨v2, w2, r2, l3, g2⟩ := run_append_all (P := P) t ty M lo wr.heap.size base e i ht hi hz hsize hby _ [] l1 nv ys l2 (by simp; omega) b1.size (by omega)
  have b2 := b1.trans (l1.below_of g2 b1.size)
  have hc : w2.cell? ⟨wr.heap.size + 1, 0, none⟩ = some u := g2.cell (by simp) (by simp [Value.ownBlock])
  obtain ⟨v8, w8, r8, l8, g8⟩ := run_append_lst (P := P) t ty' M lo wr.heap.size e i ht hi hz hsize hby v2 _ l3 ⟨wr.heap.size + 1, 0, none⟩ 1 1 [u] [x] rfl rfl (by
    intro j u' hj
    match j, hj with
    | 0, hj =>
      simp at hj
      subst hj
      simpa [Addr.add] using hc) (one_el hu b2) (by simp; omega) b2.size (by omega)
  refine ⟨v2, w2, v8, w8, r2, r8, b2, b2.trans (l3.below_of g8 b2.size), ?_⟩
  have h := l8.lower hbase
  simpa using h
theorem order_c : ∃ v2 w2 v8 w8, (Builtin.append_ #[t, t] ty #[.slice (some ⟨wr.heap.size + 1, 0, none⟩) 0 0, nv]).run P ((wr.alloc (.cells #[u] e)).alloc (.cells #[] e)).drew = .ok v2 w2 ∧
    (Builtin.append_ #[t, t] ty' #[v2, .slice (some ⟨wr.heap.size, 0, none⟩) 1 1]).run P w2 = .ok v8 w8 ∧ Below wr.heap.size wr w2 ∧ Below wr.heap.size wr w8 ∧ Lst w8 M lo base e v8 (ys ++ [x]) := by
  have b1 : Below wr.heap.size wr ((wr.alloc (.cells #[u] e)).alloc (.cells #[] e)).drew := (((Below.refl _ _).alloc (Nat.le_refl _) _).alloc (by simp) _).drew
  have l0 := Lst.lit (wr.alloc (.cells #[u] e)) M lo wr.heap.size e (by simp)
  rw [show (wr.alloc (.cells #[u] e)).heap.size = wr.heap.size + 1 by simp] at l0
  have l1 : Lst ((wr.alloc (.cells #[u] e)).alloc (.cells #[] e)).drew M lo wr.heap.size e (.slice (some ⟨wr.heap.size + 1, 0, none⟩) 0 0) [] := l0.turns (fun k hk => by have := hM k hk; omega) (Turns.refl M _).drew
  have l2 : Lst ((wr.alloc (.cells #[u] e)).alloc (.cells #[] e)).drew M lo base e nv ys := hl.turns hM (Turns.of_below b1 (Nat.le_refl _))
  obtain ⟨v2, w2, r2, l3, g2⟩ := run_append_all (P := P) t ty M lo wr.heap.size base e i ht hi hz hsize hby _ [] l1 nv ys l2 (by simp; omega) b1.size (by omega)
  have b2 := b1.trans (l1.below_of g2 b1.size)
  have hc : w2.cell? ⟨wr.heap.size, 0, none⟩ = some u := g2.cell (by simp) (by simp [Value.ownBlock])
  obtain ⟨v8, w8, r8, l8, g8⟩ := run_append_lst (P := P) t ty' M lo wr.heap.size e i ht hi hz hsize hby v2 _ l3 ⟨wr.heap.size, 0, none⟩ 1 1 [u] [x] rfl rfl (by
    intro j u' hj
    match j, hj with
    | 0, hj =>
      simp at hj
      subst hj
      simpa [Addr.add] using hc) (one_el hu b2) (by simp; omega) b2.size (by omega)
  refine ⟨v2, w2, v8, w8, r2, r8, b2, b2.trans (l3.below_of g8 b2.size), ?_⟩
  have h := l8.lower hbase
  simpa using h
end
end Go.Proofs.Ythoolcnecphihaa
