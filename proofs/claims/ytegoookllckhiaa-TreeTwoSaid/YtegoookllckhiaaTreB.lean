/-
  An array of entries in memory; two trees over one pool and one memory.
  Conditions: none beside the contracts of the tree.
-/
import Derived.Test.YtegoookllckhiaaTreE
namespace Go.Proofs.Ytegoookllckhiaa
open Go.RowKit
set_option linter.unusedVariables false
attribute [local irreducible] ps0 badU spanU

/-! ### an array of entries -/
def flatE : List En → List Value
  | [] => []
  | x :: e => .int .i64 x.k :: .int .i64 x.n :: .bool x.w :: flatE e
theorem flatE_at : ∀ (e : List En) (p : Nat), p < e.length → (flatE e)[p * 3]? = some (.int .i64 (e.getD p en0).k) ∧ (flatE e)[p * 3 + 1]? = some (.int .i64 (e.getD p en0).n) ∧ (flatE e)[p * 3 + 2]? = some (.bool (e.getD p en0).w) := by
  intro e
  induction e with
  | nil => intro p hp; cases hp
  | cons x e ih =>
    intro p hp
    cases p with
    | zero => exact ⟨rfl, rfl, rfl⟩
    | succ p =>
      have h := ih p (by simpa using hp)
      rw [show (p + 1) * 3 = p * 3 + 3 by omega]
      exact h
theorem flatE_set : ∀ (e : List En) (p : Nat) (x : En), p < e.length → (((flatE e).set (p * 3) (.int .i64 x.k)).set (p * 3 + 1) (.int .i64 x.n)).set (p * 3 + 2) (.bool x.w) = flatE (e.set p x) := by
  intro e
  induction e with
  | nil => intro p x hp; cases hp
  | cons y e ih =>
    intro p x hp
    cases p with
    | zero => rfl
    | succ p =>
      have h := ih p x (by simpa using hp)
      rw [show (p + 1) * 3 = p * 3 + 3 by omega]
      show (.int .i64 y.k :: .int .i64 y.n :: .bool y.w :: ((((flatE e).set (p * 3) (.int .i64 x.k)).set (p * 3 + 1) (.int .i64 x.n)).set (p * 3 + 2) (.bool x.w)) : List Value) = _
      rw [h]
      rfl
/-- The array, in block g. -/
def ArrE (w : World) (g : Nat) (e : List En) : Prop := e.length = 4096 ∧ Blk w g 36 (flatE e).toArray
section
variable {w w' : World} {g : Nat} {e : List En}
theorem ArrE.at_ (h : ArrE w g e) {p : Nat} (hp : p < 4096) : w.cell? ⟨g, p * 3, none⟩ = some (.int .i64 (e.getD p en0).k) ∧ w.cell? ⟨g, p * 3 + 1, none⟩ = some (.int .i64 (e.getD p en0).n) ∧ w.cell? ⟨g, p * 3 + 2, none⟩ = some (.bool (e.getD p en0).w) := by
  have := flatE_at e p (by rw [h.1]; exact hp)
  refine ⟨?_, ?_, ?_⟩ <;> rw [Blk.cellL h.2]
  · exact this.1
  · exact this.2.1
  · exact this.2.2
theorem ArrE.set_ (h : ArrE w g e) {p : Nat} (x : En) (hp : p < 4096) : ArrE (((w.setCell ⟨g, p * 3, none⟩ (.int .i64 x.k)).setCell ⟨g, p * 3 + 1, none⟩ (.int .i64 x.n)).setCell ⟨g, p * 3 + 2, none⟩ (.bool x.w)) g (e.set p x) := by
  refine ⟨by rw [List.length_set]; exact h.1, ?_⟩
  have h1 := Blk.setL (Blk.setL (Blk.setL h.2 (p * 3) (.int .i64 x.k)) (p * 3 + 1) (.int .i64 x.n)) (p * 3 + 2) (.bool x.w)
  rw [flatE_set e p x (by rw [h.1]; exact hp)] at h1
  exact h1
theorem ArrE.frozen (h : ArrE w g e) (i : Nat) : w.frozen? ⟨g, i, none⟩ = false := h.2.frozen i
theorem ArrE.lt (h : ArrE w g e) : g < w.heap.size := h.2.lt
theorem ArrE.far (h : ArrE w g e) (hk : w'.heap[g]? = w.heap[g]?) : ArrE w' g e := ⟨h.1, hk.trans h.2⟩
theorem ArrE.fresh (h : ArrE w g e) (hb : Below w.heap.size w w') : ArrE w' g e := h.far (hb.block g h.lt)
end
def isI0 : Value → Bool
  | .int .i64 n => n == 0
  | _ => false
def isB0 : Value → Bool
  | .bool b => !b
  | _ => false
/-- Of each three cells: a number, a number, a truth value, all zero. -/
def chkE : List Value → Nat → Bool
  | [], _ => true
  | v :: l, 0 => isI0 v && chkE l 1
  | v :: l, 1 => isI0 v && chkE l 2
  | v :: l, _ => isB0 v && chkE l 0
theorem isI0_eq {v : Value} (h : isI0 v = true) : v = .int .i64 0 := by
  unfold isI0 at h
  split at h
  · simp at h; rw [h]
  · cases h
theorem isB0_eq {v : Value} (h : isB0 v = true) : v = .bool false := by
  unfold isB0 at h
  split at h
  · simp at h; rw [h]
  · cases h
theorem chkE_eq : ∀ (n : Nat) (l : List Value), l.length = n * 3 → chkE l 0 = true → l = flatE (List.replicate n en0) := by
  intro n
  induction n with
  | zero => intro l hl _; exact List.eq_nil_of_length_eq_zero (by omega)
  | succ n ih =>
    intro l hl h
    match l, hl with
    | [], hl => simp at hl
    | [_], hl => simp at hl; omega
    | [_, _], hl => simp at hl; omega
    | a :: b :: c :: l, hl =>
      have h1 : (isI0 a && (isI0 b && (isB0 c && chkE l 0))) = true := h
      simp only [Bool.and_eq_true] at h1
      obtain ⟨k0, k1, k2, k3⟩ := h1
      rw [isI0_eq k0, isI0_eq k1, isB0_eq k2, ih l (by simp at hl; omega) k3]
      rfl
theorem Try.zeroArr : (Try.prog.info? 36).map (fun i => i.zero.map (fun z => z.cells.size == 12288 && chkE z.cells.toList 0)) = some (some true) := by kernel_rfl
theorem agg_of_ {z : Value} (h : z.cells.size ≠ 1) : z = .agg z.cells := by
  cases z
  case agg cs => rfl
  all_goals exact absurd rfl h
theorem zero_arr : ∃ Z : Array Value, Z = (flatE (List.replicate 4096 en0)).toArray ∧ ∀ w, (zeroValue 36).run Try.prog w = .ok (.agg Z) w := by
  have h := Try.zeroArr
  cases hq : Try.prog.info? 36 with
  | none => rw [hq] at h; cases h
  | some i =>
    rw [hq] at h
    simp only [Option.map_some, Option.some.injEq] at h
    obtain ⟨z, hz, hzc⟩ := Option.map_eq_some_iff.1 h
    rw [Bool.and_eq_true, beq_iff_eq] at hzc
    refine ⟨z.cells, ?_, fun w => ?_⟩
    · have e := chkE_eq 4096 z.cells.toList (by rw [Array.length_toList, hzc.1]) hzc.2
      rw [← e]
    · have e : z = .agg z.cells := agg_of_ (by rw [hzc.1]; omega)
      have e2 : (zeroValue 36).run Try.prog w = .ok z w := by simp [zeroValue, typeInfo, hq, hz]
      rw [e2]
      exact congrArg (fun v => Result.ok v w) e
theorem ArrE.new {Z : Array Value} (hZ : Z = (flatE (List.replicate 4096 en0)).toArray) (w : World) : ArrE (w.alloc (.cells Z 36)) w.heap.size (List.replicate 4096 en0) := by
  refine ⟨List.length_replicate, ?_⟩
  rw [hZ]
  exact Blk.new w _ _

/-! ### two trees -/
/-- Two trees, both live; no block that their work turns lies from B0 up to B1. -/
def TwoT (w0 w : World) (gT gU : Nat) (p : PS) (s u : TS) (B0 B1 : Nat) : Prop :=
  ∃ gR gF gP F bad K KT KU, Mem w gR gF 1024 F bad ∧ PoolMem w gP K p ∧ TreeMem w gT KT gR gP F s ∧ TreeMem w gU KU gR gP F u ∧ Apart gR gF K KT ∧ Apart gR gF K KU ∧ (∀ k, KT k → ¬ KU k) ∧
    (∀ k, K k ∨ KT k ∨ KU k ∨ k = gF ∨ k = gR → w0.heap.size ≤ k ∧ (k < B0 ∨ B1 ≤ k)) ∧ Below w0.heap.size w0 w ∧ (∀ f ∈ s.t, p.u.getD f 0 = 2) ∧ (∀ f ∈ u.t, p.u.getD f 0 = 2) ∧ (∀ f ∈ s.t, f ∉ u.t) ∧ NoBad bad ∧ s.live = true ∧ u.live = true ∧ B1 ≤ w.heap.size
section
variable {w0 w w' : World} {gT gU B0 B1 : Nat} {p : PS} {s u : TS}
theorem TwoT.swap (h : TwoT w0 w gT gU p s u B0 B1) : TwoT w0 w gU gT p u s B0 B1 := by
  obtain ⟨gR, gF, gP, F, bad, K, KT, KU, h1, h2, h3, h4, h5, h6, h7, h8, h9, h10, h11, h12, h13, h14, h15, h16⟩ := h
  exact ⟨gR, gF, gP, F, bad, K, KU, KT, h1, h2, h4, h3, h6, h5, fun k a b => h7 k b a, fun k hk => h8 k (by
    rcases hk with hk | hk | hk | hk
    · exact .inl hk
    · exact .inr (.inr (.inl hk))
    · exact .inr (.inl hk)
    · exact .inr (.inr (.inr hk))), h9, h11, h10, fun f a b => h12 f b a, h13, h15, h14, h16⟩
theorem TwoT.bel (h : TwoT w0 w gT gU p s u B0 B1) : Below w0.heap.size w0 w := by
  obtain ⟨_, _, _, _, _, _, _, _, _, _, _, _, _, _, _, _, h, _⟩ := h
  exact h
theorem TwoT.fresh (h : TwoT w0 w gT gU p s u B0 B1) (hb : Below w.heap.size w w') : TwoT w0 w' gT gU p s u B0 B1 := by
  obtain ⟨gR, gF, gP, F, bad, K, KT, KU, h1, h2, h3, h4, h5, h6, h7, h8, h9, h10, h11, h12, h13, h14, h15, h16⟩ := h
  exact ⟨gR, gF, gP, F, bad, K, KT, KU, h1.below hb h1.lt.1 h1.lt.2, h2.fresh hb, h3.fresh hb, h4.fresh hb, h5, h6, h7, h8, h9.trans (hb.mono h9.size), h10, h11, h12, h13, h14, h15, Nat.le_trans h16 hb.size⟩
/-- Blocks from B0 up to B1 stay. -/
def Mid (B0 B1 : Nat) (w w' : World) : Prop := ∀ k, B0 ≤ k → k < B1 → w'.heap[k]? = w.heap[k]?
theorem two_set (page k n : Int) (b : Bool) (h : TwoT w0 w gT gU p s u B0 B1) :
    Calls Try.prog 12 #[.pointer (some ⟨gT, 0, none⟩), .int .i64 page, .agg #[.int .i64 k, .int .i64 n, .bool b]] w fun e w' => ∃ (er : Nat) (p' : PS) (s' : TS), e = .returned (.int .i64 (er : Int)) ∧ ((er = 0 ∧ (0 ≤ page ∧ page < 4096) ∧ s'.e = s.e.set page.toNat ⟨k, n, b⟩) ∨ (er ≠ 0 ∧ s'.e = s.e)) ∧ TwoT w0 w' gT gU p' s' u B0 B1 ∧ Mid B0 B1 w w' ∧ w.heap.size ≤ w'.heap.size := by
  obtain ⟨gR, gF, gP, F, bad, K, KT, KU, h1, h2, h3, h4, h5, h6, h7, h8, h9, h10, h11, h12, h13, h14, h15, h16⟩ := h
  refine (tree_set gT gR gF gP K KT F bad p s w page k n b h1 h2 h3 h5 h13 h10 h14).mono ?_
  rintro e w' ⟨er, F', p', s', rfl, hs, K', KT', k1, k2, k3, k4, k5, k6, k7, k8⟩
  have hM : ∀ q, K q ∨ KT q ∨ q = gF → w0.heap.size ≤ q ∧ (q < B0 ∨ B1 ≤ q) := fun q hq => h8 q (by
    rcases hq with hq | hq | hq
    · exact .inl hq
    · exact .inr (.inl hq)
    · exact .inr (.inr (.inr (.inl hq))))
  have hU : TreeMem w' gU KU gR gP F' u := (h4.frames (fun f hf => k7 f (fun hf2 => h12 f hf2 hf) (by rw [h11 f hf]; omega))).far (fun q hq => k8.block q (h4.lt q hq) (by
    rintro (hk | hk | hk)
    · exact h6.2.2.2.2 q hk hq
    · exact h7 q hk hq
    · exact h6.2.2.2.1 (hk ▸ hq)))
  have hK' : ∀ q, K' q → K q ∨ w.heap.size ≤ q := k5
  have hKT' : ∀ q, KT' q → KT q ∨ w.heap.size ≤ q := k6
  have hs0 := h9.size
  have htabs : (∀ f ∈ s'.t, p'.u.getD f 0 = 2) ∧ (∀ f ∈ u.t, p'.u.getD f 0 = 2) ∧ (∀ f ∈ s'.t, f ∉ u.t) ∧ s'.live = true ∧ ((er = 0 ∧ (0 ≤ page ∧ page < 4096) ∧ s'.e = s.e.set page.toNat ⟨k, n, b⟩) ∨ (er ≠ 0 ∧ s'.e = s.e)) := by
    rcases hs with ⟨_, he, rfl, rfl⟩ | ⟨hp, ⟨_, he, rfl, rfl⟩ | ⟨_, he, rfl, rfl, _⟩ | ⟨_, he, hse, hlv, hst⟩⟩
    · exact ⟨h10, h11, h12, h14, .inr ⟨by omega, rfl⟩⟩
    · exact ⟨h10, h11, h12, h14, .inr ⟨by omega, rfl⟩⟩
    · exact ⟨h10, h11, h12, h14, .inr ⟨by omega, rfl⟩⟩
    · have hnu : ∀ f ∈ s'.t, f ∉ u.t := fun f hf hfu => by
        by_cases c : f ∈ s.t
        · exact h12 f c hfu
        · have := hst.new f hf c
          rw [h11 f hfu] at this
          omega
      refine ⟨hst.tabs k3.ok.tlt, fun f hf => ?_, hnu, hlv, .inl ⟨he, ⟨hp.1, by omega⟩, hse⟩⟩
      rw [hst.u f (h4.ok.tlt f hf), if_neg (fun h => hnu f h hf), if_neg (fun h => h12 f h hf)]
      exact h11 f hf
  refine ⟨er, p', s', rfl, htabs.2.2.2.2, ⟨gR, gF, gP, F', bad, K', KT', KU, k1, k2, k3, hU, k4, ?_, ?_, ?_, h9.trans (k8.below (fun q hq => (hM q hq).1) hs0), htabs.1, htabs.2.1, htabs.2.2.1, h13, htabs.2.2.2.1, h15, Nat.le_trans h16 k8.size⟩, ?_, k8.size⟩
  · refine ⟨k4.1, k4.2.1, h6.2.2.1, h6.2.2.2.1, fun q hq hq2 => ?_⟩
    rcases hK' q hq with h | h
    · exact h6.2.2.2.2 q h hq2
    · have := h4.lt q hq2; omega
  · intro q hq hq2
    rcases hKT' q hq with h | h
    · exact h7 q h hq2
    · have := h4.lt q hq2; omega
  · rintro q (hq | hq | hq | hq)
    · rcases hK' q hq with h | h
      · exact h8 q (.inl h)
      · exact ⟨by omega, .inr (by omega)⟩
    · rcases hKT' q hq with h | h
      · exact h8 q (.inr (.inl h))
      · exact ⟨by omega, .inr (by omega)⟩
    · exact h8 q (.inr (.inr (.inl hq)))
    · exact h8 q (.inr (.inr (.inr hq)))
  · intro q q0 q1
    exact k8.block q (by omega) (fun hq => by have := (hM q hq).2; omega)
theorem two_get (page : Nat) (hp : page < 4096) (h : TwoT w0 w gT gU p s u B0 B1) :
    Calls Try.prog 18 #[.pointer (some ⟨gT, 0, none⟩), .int .i64 (page : Int)] w fun e w' => e = .returned (.tuple #[.agg (enV (s.e.getD page en0)), .int .i64 0]) ∧ Below w.heap.size w w' := by
  obtain ⟨gR, gF, gP, F, bad, K, KT, KU, h1, h2, h3, h4, h5, h6, h7, h8, h9, h10, h11, h12, h13, h14, h15, h16⟩ := h
  exact tree_get gT gR gF gP KT F bad s w page hp h1 h3 h13 h14
theorem two_tables (h : TwoT w0 w gT gU p s u B0 B1) :
    Calls Try.prog 15 #[.pointer (some ⟨gT, 0, none⟩)] w fun e w' => ∃ v, e = .returned v ∧ Its w' w'.heap.size v (asI s.t) ∧ Below w.heap.size w w' := by
  obtain ⟨gR, gF, gP, F, bad, K, KT, KU, h1, h2, h3, h4, h5, h6, h7, h8, h9, h10, h11, h12, h13, h14, h15, h16⟩ := h
  refine (tree_tables gT gR gP KT F s w h3).mono ?_
  rintro e w' ⟨v, rfl, k1, k2⟩
  exact ⟨v, rfl, Its.of_own k1, k2⟩
theorem two_owns (f : Int) (h : TwoT w0 w gT gU p s u B0 B1) :
    Calls Try.prog 16 #[.pointer (some ⟨gT, 0, none⟩), .int .i64 f] w fun e w' => e = .returned (.bool (decide (f ∈ asI s.t))) ∧ Below w.heap.size w w' := by
  obtain ⟨gR, gF, gP, F, bad, K, KT, KU, h1, h2, h3, h4, h5, h6, h7, h8, h9, h10, h11, h12, h13, h14, h15, h16⟩ := h
  exact tree_owns gT gR gP KT F s w f h3
end
end Go.Proofs.Ytegoookllckhiaa
