/-
  Lists of lists of bytes: one that the call owns, whose elements lie in blocks that other work does not turn; one more behind it; what it reads as. Nothing of the program is named here.
  Conditions: none beside those that each line bears.
-/
import Derived.Test.YtckabekimdcdcaaOver
import Derived.Lib.Hide
namespace Go.Proofs.Ytckabekimdcdcaa
open Go.RowKit
set_option linter.unusedVariables false

/-- The slice value v holds the bytes xs, in a block that is not in M, and that is below lo or is no block of e's. -/
def El (w : World) (M : Nat → Prop) (lo : Nat) (e : TypeId) (v : Value) (xs : List Nat) : Prop :=
  ∃ A n c, v = .slice A n c ∧ xs.length = n ∧ n ≤ c ∧ (A = none → c = 0) ∧ c ≤ maxLen ∧ (∀ j, j < n → xs.getD j 0 < 256) ∧
    (0 < n → ∃ b off, A = some ⟨b, off, none⟩ ∧ ¬ M b ∧ b < w.heap.size ∧ (b < lo ∨ ∃ cs t fr, w.heap[b]? = some (.cells cs t fr) ∧ t ≠ e) ∧
      ∀ j, j < n → w.cell? ⟨b, off + j, none⟩ = some (.int .u8 ((xs.getD j 0 : Nat) : Int)))

section
variable {w w' : World} {M : Nat → Prop} {lo base : Nat} {e : TypeId} {v : Value} {xs : List Nat}
theorem El.bts (h : El w M lo e v xs) : Bts w w.heap.size v xs := by
  obtain ⟨A, n, c, hv, hl, hnc, hA, hc, hb, hx⟩ := h
  refine ⟨A, n, c, hv, hl, Nat.le_trans hnc hc, ⟨hnc, hA⟩, hc, hb, fun hn => ?_⟩
  obtain ⟨b, off, h1, _, h3, _, h5⟩ := hx hn
  exact ⟨b, off, h1, h3, h5⟩
theorem El.of_bts (h : Bts w lo v xs) (hM : ∀ k, M k → lo ≤ k) (hs : lo ≤ w.heap.size) : El w M lo e v xs := by
  obtain ⟨A, n, c, hv, hl, hm, ⟨hnc, hA⟩, hc, hb, hx⟩ := h
  refine ⟨A, n, c, hv, hl, hnc, hA, hc, hb, fun hn => ?_⟩
  obtain ⟨b, off, h1, h3, h5⟩ := hx hn
  exact ⟨b, off, h1, fun hm => by have := hM b hm; omega, by omega, .inl h3, h5⟩
theorem El.kept (h : El w M lo e v xs) (hs : w.heap.size ≤ w'.heap.size) (hk : ∀ b, b < w.heap.size → ¬ M b → (b < lo ∨ ∃ cs t fr, w.heap[b]? = some (.cells cs t fr) ∧ t ≠ e) → w'.heap[b]? = w.heap[b]?) : El w' M lo e v xs := by
  obtain ⟨A, n, c, hv, hl, hnc, hA, hc, hb, hx⟩ := h
  refine ⟨A, n, c, hv, hl, hnc, hA, hc, hb, fun hn => ?_⟩
  obtain ⟨b, off, h1, h2, h3, h4, h5⟩ := hx hn
  have hbl := hk b h3 h2 h4
  refine ⟨b, off, h1, h2, Nat.lt_of_lt_of_le h3 hs, ?_, fun j hj => ?_⟩
  · rw [hbl]; exact h4
  · rw [World.cell?_of_block (a := ⟨b, off + j, none⟩) hbl]
    exact h5 j hj
theorem El.turns (h : El w M lo e v xs) (ht : Turns M w w') : El w' M lo e v xs := h.kept ht.size fun b h1 h2 _ => ht.block b h1 h2
/-- Bytes in a block that is known whole. -/
theorem El.of_blk {g off n cap : Nat} {t : TypeId} {cur : Array Value} (h : Blk w g t cur) (hM : ¬ M g) (ht : t ≠ e) (hl : xs.length = n) (hn : n ≤ cap) (hm : cap ≤ maxLen)
    (hb : ∀ j, j < n → xs.getD j 0 < 256) (hc : ∀ j, j < n → cur[off + j]? = some (bv (xs.getD j 0))) : El w M lo e (.slice (some ⟨g, off, none⟩) n cap) xs :=
  ⟨_, _, _, rfl, hl, hn, (fun h => by cases h), hm, hb, fun _ => ⟨g, off, rfl, hM, h.lt, .inr ⟨cur, t, _, h, ht⟩, fun j hj => (h.cell _).trans (hc j hj)⟩⟩
/-- A part of such bytes. -/
theorem El.part {A : Option Addr} {n c : Nat} (h : El w M lo e (.slice A n c) xs) {a k c' : Nat} (ha : a + k ≤ n) (hk : k ≤ c') (hc' : c' ≤ maxLen) (v' : Value) (hv' : ∀ b off, A = some ⟨b, off, none⟩ → v' = .slice (some ⟨b, off + a, none⟩) k c') (h0 : 0 < n) :
    El w M lo e v' (win xs a k) := by
  obtain ⟨A', n', c1, hv, hl, hnc, hA, hc, hb, hx⟩ := h
  injection hv with e1 e2 e3
  subst e1 e2 e3
  obtain ⟨b, off, h1, h2, h3, h4, h5⟩ := hx h0
  have hwl := win_length xs a k (by omega)
  have hg : ∀ j, j < k → (win xs a k).getD j 0 = xs.getD (a + j) 0 := by
    intro j hj
    unfold win
    simp only [List.getD_eq_getElem?_getD, List.getElem?_take, if_pos hj, List.getElem?_drop]
  refine ⟨_, _, _, hv' b off h1, hwl, hk, (fun h => by cases h), hc', fun j hj => ?_, fun _ => ⟨b, off + a, rfl, h2, h3, h4, fun j hj => ?_⟩⟩
  · rw [hg j hj]
    exact hb (a + j) (by omega)
  · rw [hg j hj, Nat.add_assoc]
    exact h5 (a + j) (by omega)
end

/-- The call's own list of such lists. -/
def Lst (w : World) (M : Nat → Prop) (lo base : Nat) (e : TypeId) (v : Value) (xss : List (List Nat)) : Prop :=
  ∃ vs, w.ownsRow base e 1 v xss.length vs ∧ ∀ j, j < xss.length → ∃ u, vs[j]? = some u ∧ El w M lo e u (xss.getD j [])

/-- Lists of bytes that lie in memory, one behind the other. -/
def Pts (w : World) (v : Value) (xss : List (List Nat)) : Prop :=
  ∃ A n c, v = .slice A n c ∧ xss.length = n ∧ n ≤ c ∧ c ≤ maxLen ∧
    (0 < n → ∃ b off, A = some ⟨b, off, none⟩ ∧ ∀ j, j < n → ∃ u, w.cell? ⟨b, off + j, none⟩ = some u ∧ Bts w w.heap.size u (xss.getD j []))

section
variable {w w' : World} {M : Nat → Prop} {lo base : Nat} {e : TypeId} {v : Value} {xss : List (List Nat)}
theorem Lst.nil_ (w : World) (M : Nat → Prop) (lo base : Nat) (e : TypeId) : Lst w M lo base e (.slice none 0 0) [] :=
  ⟨[], World.ownsRow_nil _ _ _ _, fun j hj => absurd hj (by simp)⟩
theorem Lst.shape (h : Lst w M lo base e v xss) : ∃ A c, v = .slice A xss.length c ∧ xss.length ≤ c ∧ c ≤ maxLen := by
  obtain ⟨vs, ⟨_, h2⟩, _⟩ := h
  rcases h2 with ⟨h3, h4⟩ | ⟨g, cap, cur, h3, _, _, h5, h6, _⟩
  · exact ⟨none, 0, by rw [h4]; exact h3, by omega, by simp [maxLen]⟩
  · exact ⟨_, cap, h3, h5, h6⟩
theorem Lst.turns (h : Lst w M lo base e v xss) (hM : ∀ k, M k → k < base) (ht : Turns M w w') : Lst w' M lo base e v xss := by
  obtain ⟨vs, ⟨h1, h2⟩, h3⟩ := h
  refine ⟨vs, ⟨h1, ?_⟩, fun j hj => ?_⟩
  · rcases h2 with h2 | ⟨g, cap, cur, h4, h5, h6, h7⟩
    · exact .inl h2
    · refine .inr ⟨g, cap, cur, h4, h5, ?_, h7⟩
      rw [ht.block g (Array.getElem?_eq_some_iff.1 h6).1 (fun hm => by have := hM g hm; omega)]
      exact h6
  · obtain ⟨u, h4, h5⟩ := h3 j hj
    exact ⟨u, h4, h5.turns ht⟩
theorem Lst.alloc (h : Lst w M lo base e v xss) (hM : ∀ k, M k → k < base) (o : Obj) : Lst (w.alloc o) M lo base e v xss := h.turns hM ((Turns.refl _ _).alloc o)
theorem Lst.pts (h : Lst w M lo base e v xss) : Pts w v xss := by
  obtain ⟨A, c, hv, h1, h2⟩ := h.shape
  obtain ⟨vs, ho, h3⟩ := h
  refine ⟨A, xss.length, c, hv, rfl, h1, h2, fun hn => ?_⟩
  obtain ⟨g, cap, hv'⟩ := own_shape ho (by omega)
  rw [hv] at hv'
  injection hv' with e1 e2 e3
  subst e1 e3
  subst hv
  refine ⟨g, 0, rfl, fun j hj => ?_⟩
  obtain ⟨u, h4, h5⟩ := h3 j hj
  exact ⟨u, by rw [Nat.zero_add, ho.cellAt j (by omega)]; exact h4, h5.bts⟩
theorem Lst.el (h : Lst w M lo base e v xss) {j : Nat} (hj : j < xss.length) : ∃ g cap u, v = .slice (some ⟨g, 0, none⟩) xss.length cap ∧ w.cell? ⟨g, j, none⟩ = some u ∧ El w M lo e u (xss.getD j []) := by
  obtain ⟨vs, ho, h3⟩ := h
  obtain ⟨g, cap, rfl⟩ := own_shape ho (by omega)
  obtain ⟨u, h4, h5⟩ := h3 j hj
  exact ⟨g, cap, u, rfl, by rw [ho.cellAt j (by omega)]; exact h4, h5⟩
/-- Other work above the list's own base may be named by another one. -/
theorem Lst.lower (h : Lst w M lo base e v xss) {base' : Nat} (hb : base' ≤ base) : Lst w M lo base' e v xss := by
  obtain ⟨vs, ⟨h1, h2⟩, h3⟩ := h
  refine ⟨vs, ⟨h1, ?_⟩, h3⟩
  rcases h2 with h2 | ⟨g, cap, cur, h4, h5, h6⟩
  · exact .inl h2
  · exact .inr ⟨g, cap, cur, h4, by omega, h6⟩
end
section
variable {w w' : World} {v : Value} {xss : List (List Nat)}
theorem Pts.get (h : Pts w v xss) {j : Nat} (hj : j < xss.length) : ∃ b off c u, v = .slice (some ⟨b, off, none⟩) xss.length c ∧ xss.length ≤ c ∧ w.cell? ⟨b, off + j, none⟩ = some u ∧ Bts w w.heap.size u (xss.getD j []) := by
  obtain ⟨A, n, c, rfl, hl, h1, h2, h3⟩ := h
  obtain ⟨b, off, rfl, h4⟩ := h3 (by omega)
  obtain ⟨u, h5, h6⟩ := h4 j (by omega)
  exact ⟨b, off, c, u, by rw [hl], by omega, h5, h6⟩
theorem Pts.below (h : Pts w v xss) (hb : Below w.heap.size w w') : Pts w' v xss := by
  obtain ⟨A, n, c, hv, hl, h1, h2, h3⟩ := h
  refine ⟨A, n, c, hv, hl, h1, h2, fun hn => ?_⟩
  obtain ⟨b, off, hA, h4⟩ := h3 hn
  refine ⟨b, off, hA, fun j hj => ?_⟩
  obtain ⟨u, h5, h6⟩ := h4 j hj
  exact ⟨u, (hb.cell (World.block_lt_of_cell? w _ h5)).trans h5, (h6.below hb).more hb.size⟩
end

section
variable {P : Program} {w : World} {ops : Array Oper} {rest : List Oper} {o : Oper} {a : Act} {Q : Exit → Act → World → Prop}
theorem one_slice (A : Option Addr) (n c : Nat) : (Value.slice A n c).oneCell' = true := rfl
/-- 'append(v, u...)': some such lists more behind the call's own list. -/
theorem wpList_append_lst (hgd : o.guard = none) (s x : Operand) (t : TypeId) (ho : o.op = .call { callee := .builtin .append, args := #[s, x], argTypes := #[t, t] })
    (M : Nat → Prop) (lo base : Nat) (e : TypeId) (i : TypeInfo) (ht : P.underlying t = some (.slice e)) (hi : P.info? e = some i) (hz : i.zero = some (.slice none 0 0)) (hsize : i.size = 1) (hby : i.bytes = 24)
    (v : Value) (xss : List (List Nat)) (hs : a.eval s = v) (hl : Lst w M lo base e v xss) (ad : Addr) (m c : Nat) (us : List Value) (yss : List (List Nat)) (hx : a.eval x = .slice (some ad) m c) (hm : us.length = m) (hm' : yss.length = m)
    (hc : ∀ j u, us[j]? = some u → w.cell? (ad.add j) = some u) (hu : ∀ j, j < m → ∃ u, us[j]? = some u ∧ El w M lo e u (yss.getD j []))
    (hfew : xss.length + m ≤ 1000000) (hbase : base ≤ w.heap.size) (hlo : lo ≤ base)
    (h : ∀ v' w', Hid (Lst w' M lo base e v' (xss ++ yss)) → Hid (Below base w w') → wpList P ops Q rest (a.put o.dst v') w') : wpList P ops Q (o :: rest) a w := by
  obtain ⟨vs, hown, h3⟩ := hl
  have hvl : vs.length = xss.length := by have := hown.1; omega
  have h1 : ∀ u ∈ us, u.oneCell' = true := by
    intro u hmem
    obtain ⟨j, hj, hje⟩ := List.getElem_of_mem hmem
    obtain ⟨u', h4, h5⟩ := hu j (by omega)
    rw [List.getElem?_eq_getElem hj, hje] at h4
    injection h4 with h4
    subst h4
    obtain ⟨A, n, c, rfl, _⟩ := h5
    rfl
  refine wpList_append_own w hgd s x t ho base e i _ 1 24 ht hi hz hsize hby rfl (by omega) v _ vs hs hown ad m c us hx (by simp [hm]) hc h1 (by unfold maxLen; omega) (by omega) hbase ?_
  intro v' w' h4 h5 _
  have hbel : Below base w w' := (Below.refl base w).grown h5 hbase (fun k hk => (hown.lt k hk).1)
  refine h v' w' ⟨vs ++ us, by rw [List.length_append, hm']; exact h4, fun j hj => ?_⟩ hbel
  have hkeep : ∀ u ys, El w M lo e u ys → El w' M lo e u ys := by
    intro u ys hel
    refine hel.kept hbel.size fun b b1 b2 b3 => h5.block b b1 (fun eb => ?_)
    rcases hown.2 with ⟨rfl, _⟩ | ⟨g, cap, cur, rfl, hg1, hg2, _⟩
    · simp [Value.ownBlock] at eb
    · simp only [Value.ownBlock, Option.some.injEq] at eb
      subst eb
      rcases b3 with b3 | ⟨cs, t', fr, b4, b5⟩
      · omega
      · rw [hg2] at b4
        injection b4 with b4
        injection b4 with _ b6 _
        exact b5 b6.symm
  rw [List.length_append] at hj
  simp only [List.getD_eq_getElem?_getD]
  by_cases hjl : j < xss.length
  · obtain ⟨u, h6, h7⟩ := h3 j hjl
    refine ⟨u, by rw [List.getElem?_append_left (by omega)]; exact h6, ?_⟩
    rw [List.getElem?_append_left hjl, ← List.getD_eq_getElem?_getD]
    exact hkeep _ _ h7
  · obtain ⟨u, h6, h7⟩ := hu (j - xss.length) (by omega)
    refine ⟨u, by rw [List.getElem?_append_right (by omega), hvl]; exact h6, ?_⟩
    rw [List.getElem?_append_right (by omega), ← List.getD_eq_getElem?_getD]
    exact hkeep _ _ h7
end
end Go.Proofs.Ytckabekimdcdcaa
