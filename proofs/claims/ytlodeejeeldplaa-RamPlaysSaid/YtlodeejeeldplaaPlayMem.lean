/-
  What RamPlays keeps beside the memory: its list of bytes, its counts of poisonings, the acts that came in.
  Conditions: none beside those that each line bears.
-/
import Derived.Test.YtlodeejeeldplaaRamD
import Derived.Test.YtlodeejeeldplaaSame
import Derived.Test.YtlodeejeeldplaaBigZ
namespace Go.Proofs.Ytlodeejeeldplaa
open Go.RowKit
set_option linter.unusedVariables false

/-! ### the list -/
def Lst (w : World) (g : Nat) (F : Nat → List Nat) : Prop :=
  ∃ cur, Blk w g 29 cur ∧ cur.size = 65536 ∧ ∀ f, f < 1024 → (F f).length = 64 ∧ (∀ y ∈ F f, y < 256) ∧ ∀ i, i < 64 → cur[f * 64 + i]? = some (bv ((F f).getD i 0))
section
variable {w w' : World} {g : Nat} {F : Nat → List Nat}
theorem Lst.lt (h : Lst w g F) : g < w.heap.size := by
  obtain ⟨cur, h1, _⟩ := h
  exact h1.lt
theorem Lst.far (h : Lst w g F) (hF : w'.heap[g]? = w.heap[g]?) : Lst w' g F := by
  obtain ⟨cur, h1, h2⟩ := h
  exact ⟨cur, hF.trans h1, h2⟩
theorem Lst.below (h : Lst w g F) {B : Nat} (hb : Below B w w') (hF : g < B) : Lst w' g F := h.far (hb.block _ hF)
theorem Lst.only (h : Lst w g F) {k : Nat} (ho : Only k w w') (hF : g ≠ k) : Lst w' g F := h.far (ho.1.block _ h.lt (fun e => hF (by injection e)))
theorem Lst.long (h : Lst w g F) {f : Nat} (hf : f < 1024) : (F f).length = 64 := by
  obtain ⟨cur, _, _, h3⟩ := h
  exact (h3 f hf).1
theorem Lst.byte (h : Lst w g F) {f : Nat} (hf : f < 1024) : ∀ y ∈ F f, y < 256 := by
  obtain ⟨cur, _, _, h3⟩ := h
  exact (h3 f hf).2.1
theorem Lst.bytes (h : Lst w g F) {f a : Nat} {ys : List Nat} (hf : f < 1024) (ha : a + ys.length ≤ 64) (hy : ∀ y ∈ ys, y < 256)
    (hx : ∀ cur, Blk w g 29 cur → f * 64 + a + ys.length ≤ cur.size → ∃ cur', Blk w' g 29 cur' ∧ Over cur cur' (f * 64 + a) (ys.map bv)) : Lst w' g (upd F f (over (F f) a ys)) := by
  obtain ⟨cur, h2, h3, h5⟩ := h
  obtain ⟨cur', k1, k2, k3⟩ := hx cur h2 (by omega)
  refine ⟨cur', k1, by omega, fun k hk => ?_⟩
  obtain ⟨b1, b2, b3⟩ := h5 k hk
  simp only [List.length_map] at k3
  by_cases e : k = f
  · subst e
    rw [upd_same]
    have hov := over_getD (F k) a ys (by omega)
    refine ⟨by rw [over_length _ _ _ (by omega), b1], fun y hy' => ?_, fun i hi => ?_⟩
    · simp only [Proofs.Ytlodeejeeldplaa.over, List.mem_append] at hy'
      rcases hy' with hy' | hy' | hy'
      · exact b2 y (List.mem_of_mem_take hy')
      · exact hy y hy'
      · exact b2 y (List.mem_of_mem_drop hy')
    · rw [k3, hov]
      by_cases c : a ≤ i ∧ i < a + ys.length
      · rw [if_pos (by omega), if_pos c, show k * 64 + i - (k * 64 + a) = i - a by omega]
        have hj : i - a < ys.length := by omega
        simp [hj]
      · rw [if_neg (by omega), if_neg c]
        exact b3 i hi
  · rw [upd_other F f _ e]
    refine ⟨b1, b2, fun i hi => ?_⟩
    rw [k3, if_neg (by omega)]
    exact b3 i hi
theorem Lst.there_ (h : Lst w g F) {f : Nat} (hf : f < 1024) : w.there g (f * 64) 64 := by
  obtain ⟨cur, h2, h3, h5⟩ := h
  intro j hj
  obtain ⟨b1, b2, b3⟩ := h5 f hf
  exact ⟨by rw [h2.cell, b3 j hj]; rfl, h2.frozen _⟩
theorem Lst.range_ (h : Lst w g F) {f : Nat} (hf : f < 1024) : w.rangeAt g (f * 64) ((F f).map bv) := by
  obtain ⟨cur, h2, h3, h5⟩ := h
  obtain ⟨b1, b2, b3⟩ := h5 f hf
  intro j v hv
  have hj : j < (F f).length := by
    have := (List.getElem?_eq_some_iff.1 hv).1
    simpa using this
  rw [h2.cell, b3 j (by omega)]
  simp [hj] at hv ⊢
  exact hv
theorem Lst.cells (h : Lst w g F) {f : Nat} {ys : List Nat} (hf : f < 1024) (hl : ys.length = 64) (hy : ∀ y ∈ ys, y < 256) : Lst (w.setCells g (f * 64) (ys.map bv)) g (upd F f ys) := by
  have h1 := h.bytes (a := 0) (ys := ys) hf (by omega) hy (w' := w.setCells g (f * 64) (ys.map bv)) (fun cur hc hs => Blk.setCells _ _ hc (by simpa using hs))
  have e : over (F f) 0 ys = ys := by simp [over, h.long hf, hl]
  rw [e] at h1
  exact h1
/-- A row's bytes, from a on, as a slice. -/
theorem Lst.bts (h : Lst w g F) {f a k c B : Nat} {A : Option Addr} (hf : f < 1024) (ha : a + k ≤ 64) (hc : k ≤ c) (hc64 : c ≤ 64) (hA : A ≠ none) (hA2 : 0 < k → A = some ⟨g, f * 64 + a, none⟩) (hB : g < B) : Bts w B (.slice A k c) (win (F f) a k) := by
  obtain ⟨cur, h2, h3, h5⟩ := h
  obtain ⟨b1, b2, b3⟩ := h5 f hf
  have hwl := win_length (F f) a k (by omega)
  refine ⟨A, k, c, rfl, hwl, by unfold maxLen; omega, ⟨hc, fun hn => absurd hn hA⟩, by unfold maxLen; omega, fun j hj => ?_, fun hk => ⟨g, f * 64 + a, hA2 hk, hB, fun j hj => ?_⟩⟩
  · have := win_byte (F f) a k (fun j hj => by
      have := b2 _ (List.getElem_mem hj)
      simpa [hj] using this)
    have hj' : j < (win (F f) a k).length := by omega
    have := this _ (List.getElem_mem hj')
    simpa [hj'] using this
  · rw [h2.cell, show f * 64 + a + j = f * 64 + (a + j) by omega, b3 (a + j) (by omega)]
    have e : (win (F f) a k).getD j 0 = (F f).getD (a + j) 0 := by
      unfold win
      simp only [List.getD_eq_getElem?_getD]
      rw [List.getElem?_take, if_pos hj, List.getElem?_drop]
    rw [e]
    rfl
end

/-! ### the counts -/
def Cnt (w : World) (g : Nat) (c : Nat → Nat) : Prop := ∃ cur, Blk w g 30 cur ∧ cur.size = 1024 ∧ ∀ k, k < 1024 → cur[k]? = some (.int .i64 ((c k : Nat) : Int))
section
variable {w w' : World} {g : Nat} {c : Nat → Nat}
theorem Cnt.lt (h : Cnt w g c) : g < w.heap.size := by
  obtain ⟨cur, h1, _⟩ := h
  exact h1.lt
theorem Cnt.far (h : Cnt w g c) (hF : w'.heap[g]? = w.heap[g]?) : Cnt w' g c := by
  obtain ⟨cur, h1, h2⟩ := h
  exact ⟨cur, hF.trans h1, h2⟩
theorem Cnt.below (h : Cnt w g c) {B : Nat} (hb : Below B w w') (hF : g < B) : Cnt w' g c := h.far (hb.block _ hF)
theorem Cnt.only (h : Cnt w g c) {k : Nat} (ho : Only k w w') (hF : g ≠ k) : Cnt w' g c := h.far (ho.1.block _ h.lt (fun e => hF (by injection e)))
theorem Cnt.cell (h : Cnt w g c) {k : Nat} (hk : k < 1024) : w.cell? ⟨g, k, none⟩ = some (.int .i64 ((c k : Nat) : Int)) := by
  obtain ⟨cur, h1, h2, h3⟩ := h
  rw [h1.cell, h3 k hk]
theorem Cnt.frozen (h : Cnt w g c) (k : Nat) : w.frozen? ⟨g, k, none⟩ = false := by
  obtain ⟨cur, h1, _⟩ := h
  exact h1.frozen k
theorem Cnt.set_ (h : Cnt w g c) {k : Nat} (hk : k < 1024) (x : Nat) : Cnt (w.setCell ⟨g, k, none⟩ (.int .i64 (x : Int))) g (upd c k x) := by
  obtain ⟨cur, h1, h2, h3⟩ := h
  refine ⟨_, h1.set_ k _, by simpa using h2, fun j hj => ?_⟩
  rw [Array.getElem?_setIfInBounds]
  by_cases e : k = j
  · subst e
    rw [if_pos rfl, if_pos (by omega), upd_same]
  · rw [if_neg e, upd_other _ _ _ (Ne.symm e)]
    exact h3 j hj
end

/-! ### how both are made -/
theorem zero_run {P : Program} (t : TypeId) (z : Value) (i : TypeInfo) (hi : P.info? t = some i) (hz : i.zero = some z) (w : World) : (zeroValue t).run P w = .ok z w := by
  simp [zeroValue, typeInfo, hi, hz]
theorem agg_of {z : Value} (h : z.cells.size ≠ 1) : z = .agg z.cells := by
  cases z
  case agg cs => rfl
  all_goals exact absurd rfl h
theorem alloc_list : ∃ Z : Array Value, (∀ w, (zeroValue 29).run Try.prog w = .ok (.agg Z) w) ∧ Z.size = 65536 ∧ ∀ j, j < 65536 → Z[j]? = some (.int .u8 0) := by
  have h := Try.zeroList
  cases hq : Try.prog.info? 29 with
  | none => rw [hq] at h; cases h
  | some i =>
    rw [hq] at h
    simp only [Option.map_some, Option.some.injEq] at h
    obtain ⟨z, hz, hzc⟩ := Option.map_eq_some_iff.1 h
    rw [Bool.and_eq_true, beq_iff_eq] at hzc
    refine ⟨z.cells, fun w => ?_, hzc.1, fun j hj => ?_⟩
    · rw [zero_run _ z i hq hz w]
      exact congrArg (fun v => Result.ok v w) (agg_of (by rw [hzc.1]; omega))
    · have hj' : j < z.cells.size := by rw [hzc.1]; exact hj
      have := List.all_eq_true.1 hzc.2 z.cells[j] (by simp)
      rw [Array.getElem?_eq_getElem hj', isZ8_eq this]
theorem alloc_bad : ∃ Z : Array Value, (∀ w, (zeroValue 30).run Try.prog w = .ok (.agg Z) w) ∧ Z.size = 1024 ∧ ∀ j, j < 1024 → Z[j]? = some (.int .i64 0) := by
  have h := Try.zeroBad
  cases hq : Try.prog.info? 30 with
  | none => rw [hq] at h; cases h
  | some i =>
    rw [hq] at h
    simp only [Option.map_some, Option.some.injEq] at h
    obtain ⟨z, hz, hzc⟩ := Option.map_eq_some_iff.1 h
    rw [Bool.and_eq_true, beq_iff_eq] at hzc
    refine ⟨z.cells, fun w => ?_, hzc.1, fun j hj => ?_⟩
    · rw [zero_run _ z i hq hz w]
      exact congrArg (fun v => Result.ok v w) (agg_of (by rw [hzc.1]; omega))
    · have hj' : j < z.cells.size := by rw [hzc.1]; exact hj
      have := List.all_eq_true.1 hzc.2 z.cells[j] (by simp)
      rw [Array.getElem?_eq_getElem hj', isZ64_eq this]
theorem zer_at (i : Nat) (hi : i < 64) : zer.getD i 0 = 0 := by
  unfold zer
  simp only [List.getD_eq_getElem?_getD, List.getElem?_replicate, hi, if_true, Option.getD_some]

/-! ### the acts -/
structure ActD where
  what : Int
  f : Int
  at_ : Int
  n : Int
  v : Value
  xs : List Nat
def I64 (x : Int) : Prop := -9223372036854775808 ≤ x ∧ x ≤ 9223372036854775807
def ActAt (w : World) (B b o : Nat) (x : ActD) : Prop :=
  b < B ∧ w.cell? ⟨b, o, none⟩ = some (.int .i64 x.what) ∧ w.cell? ⟨b, o + 1, none⟩ = some (.int .i64 x.f) ∧ w.cell? ⟨b, o + 2, none⟩ = some (.int .i64 x.at_) ∧ w.cell? ⟨b, o + 3, none⟩ = some (.int .i64 x.n) ∧
    w.cell? ⟨b, o + 4, none⟩ = some x.v ∧ Bts w B x.v x.xs ∧ I64 x.f ∧ I64 x.at_ ∧ I64 x.n
def Acts (w : World) (B : Nat) (v : Value) (acts : List ActD) : Prop :=
  ∃ A m c, v = .slice A m c ∧ acts.length = m ∧ m ≤ maxLen ∧ (0 < m → ∃ b off, A = some ⟨b, off, none⟩ ∧ ∀ j x, acts[j]? = some x → ActAt w B b (off + j * 5) x)
theorem ActAt.below {w w' : World} {B b o : Nat} {x : ActD} (h : ActAt w B b o x) (hb : Below B w w') : ActAt w' B b o x := by
  obtain ⟨h0, h1, h2, h3, h4, h5, h6, h7⟩ := h
  exact ⟨h0, (hb.cell (p := ⟨b, o, none⟩) h0).trans h1, (hb.cell (p := ⟨b, o + 1, none⟩) h0).trans h2, (hb.cell (p := ⟨b, o + 2, none⟩) h0).trans h3, (hb.cell (p := ⟨b, o + 3, none⟩) h0).trans h4, (hb.cell (p := ⟨b, o + 4, none⟩) h0).trans h5, h6.below hb, h7⟩
theorem Acts.below {w w' : World} {B : Nat} {v : Value} {acts : List ActD} (h : Acts w B v acts) (hb : Below B w w') : Acts w' B v acts := by
  obtain ⟨A, m, c, hv, hl, hm, hx⟩ := h
  refine ⟨A, m, c, hv, hl, hm, fun h0 => ?_⟩
  obtain ⟨b, off, hA, hc⟩ := hx h0
  exact ⟨b, off, hA, fun j x hj => (hc j x hj).below hb⟩

/-! ### all of it -/
/-- What the rounds keep: w0 is the world in which the call began, gL the list's block. -/
def St (w0 : World) (gL n k : Nat) (F : Nat → List Nat) (c : Nat → Nat) (w : World) : Prop :=
  Below w0.heap.size w0 w ∧ Mem w (w0.heap.size + 1) w0.heap.size n F (fun j => decide (0 < c j)) ∧ Lst w gL F ∧ Cnt w (gL + 1) c ∧ (∀ j, c j ≤ k) ∧ w0.heap.size + 2 ≤ gL
theorem St.below {w0 w w' : World} {gL n k : Nat} {F : Nat → List Nat} {c : Nat → Nat} (h : St w0 gL n k F c w) (hb : Below w.heap.size w w') : St w0 gL n k F c w' := by
  obtain ⟨h1, h2, h3, h4, h5, h6⟩ := h
  exact ⟨h1.trans (hb.mono h1.size), h2.below hb h2.lt.1 h2.lt.2, h3.below hb h3.lt, h4.below hb h4.lt, h5, h6⟩
theorem St.more {w0 w : World} {gL n k k' : Nat} {F : Nat → List Nat} {c : Nat → Nat} (h : St w0 gL n k F c w) (hk : k ≤ k') : St w0 gL n k' F c w := by
  obtain ⟨h1, h2, h3, h4, h5, h6⟩ := h
  exact ⟨h1, h2, h3, h4, fun j => Nat.le_trans (h5 j) hk, h6⟩
end Go.Proofs.Ytlodeejeeldplaa
