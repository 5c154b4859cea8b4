/-
  A whole value of many cells is stored into a block, and loaded out of one; a slice of integers as it lies in memory. Nothing of the program is named here.
  Conditions: none beside those that each line bears.
-/
import Derived.Test.YtkdniihnilcpfaaBas
namespace Go.Proofs.Ytkdniihnilcpfaa
open Go.RowKit
set_option linter.unusedVariables false

theorem wpList_store_vals {P : Program} {w : World} {ops : Array Oper} {rest : List Oper} {op : Oper} {a : Act} {Q : Exit → Act → World → Prop} (hgd : op.guard = none) (ty : TypeId) (x y : Operand) (ho : op.op = .store ty x y)
    (b : Nat) (t : TypeId) (cur : Array Value) (vs : List Value) (h1 : ∀ v ∈ vs, v.oneCell' = true) (hb : Blk w b t cur) (hx : a.eval x = .pointer (some ⟨b, 0, none⟩)) (hy : a.eval y = .agg vs.toArray) (hs : cur.size = vs.length) (hi : (P.info? ty).map (·.size) = some vs.length)
    (h : ∀ w', Hid (Blk w' b t vs.toArray) → Hid (Only b w w') → wpList P ops Q rest (a.put op.dst undef) w') : wpList P ops Q (op :: rest) a w := by
  have hth : w.there b 0 vs.toArray.size := by
    intro j hj
    have hj' : j < cur.size := by simpa [hs] using hj
    exact ⟨by rw [hb.cell, Nat.zero_add, Array.getElem?_eq_getElem hj']; rfl, hb.frozen _⟩
  refine wpList_store_mid hgd ty x y ho b 0 vs.toArray hx hy hth (by simpa using hi) (all_oneCell_toArray h1) (h _ ?_ (Only.setCells _ _ (Only.refl _ _)))
  obtain ⟨cur', h1, h2⟩ := Blk.setCells (vs.toArray.toList) 0 hb (by simp; omega)
  rw [over_whole h2 (by simpa using hs)] at h1
  exact h1
theorem wpList_load_vals {P : Program} {w : World} {ops : Array Oper} {rest : List Oper} {op : Oper} {a : Act} {Q : Exit → Act → World → Prop} (hgd : op.guard = none) (ty : TypeId) (x : Operand) (ho : op.op = .load ty x)
    (b : Nat) (t : TypeId) (vs : List Value) (hb : Blk w b t vs.toArray) (hx : a.eval x = .pointer (some ⟨b, 0, none⟩)) (d : TypeDesc) (hu : P.underlying ty = some d) (hd : d.isRow = true) (hi : (P.info? ty).map (·.size) = some vs.length)
    (h : wpList P ops Q rest (a.put op.dst (.agg vs.toArray)) w) : wpList P ops Q (op :: rest) a w :=
  wpList_load_mid hgd ty x ho b 0 hx vs d (Blk.range_ hb) hu hd hi h
/-- One cell of a block that is known by its list. -/
theorem Blk.setL {w : World} {b : Nat} {t : TypeId} {vs : List Value} (h : Blk w b t vs.toArray) (i : Nat) (u : Value) : Blk (w.setCell ⟨b, i, none⟩ u) b t (vs.set i u).toArray := by
  have := h.set_ i u
  rwa [List.setIfInBounds_toArray] at this
theorem Blk.cellL {w : World} {b : Nat} {t : TypeId} {vs : List Value} (h : Blk w b t vs.toArray) (i : Nat) : w.cell? ⟨b, i, none⟩ = vs[i]? := by
  rw [h.cell]; simp

/-- A slice of integers, in memory below block B. -/
def Its (w : World) (B : Nat) (v : Value) (xs : List Int) : Prop :=
  ∃ A n c, v = .slice A n c ∧ xs.length = n ∧ n ≤ c ∧ c ≤ maxLen ∧ (0 < n → ∃ b off, A = some ⟨b, off, none⟩ ∧ b < B ∧ ∀ j, j < n → w.cell? ⟨b, off + j, none⟩ = some (.int .i64 (xs.getD j 0)))
theorem Its.keep {w w' : World} {B : Nat} {v : Value} {xs : List Int} (h : Its w B v xs) (hk : ∀ p : Addr, p.block < B → w'.cell? p = w.cell? p) : Its w' B v xs := by
  obtain ⟨A, n, c, hv, hl, h1, h2, h3⟩ := h
  refine ⟨A, n, c, hv, hl, h1, h2, fun hn => ?_⟩
  obtain ⟨b, off, hA, hb, h4⟩ := h3 hn
  exact ⟨b, off, hA, hb, fun j hj => (hk _ hb).trans (h4 j hj)⟩
theorem Its.below {w w' : World} {B : Nat} {v : Value} {xs : List Int} (h : Its w B v xs) (hb : Below B w w') : Its w' B v xs := h.keep fun _ hp => hb.cell hp
theorem Its.more {w : World} {B B' : Nat} {v : Value} {xs : List Int} (h : Its w B v xs) (hB : B ≤ B') : Its w B' v xs := by
  obtain ⟨A, n, c, hv, hl, h1, h2, h3⟩ := h
  refine ⟨A, n, c, hv, hl, h1, h2, fun hn => ?_⟩
  obtain ⟨b, off, hA, hb, h4⟩ := h3 hn
  exact ⟨b, off, hA, by omega, h4⟩
theorem Its.nil_ (w : World) (B : Nat) : Its w B (.slice none 0 0) [] := ⟨none, 0, 0, rfl, rfl, Nat.le_refl _, by simp [maxLen], fun h => absurd h (by omega)⟩
theorem Its.drewN {w : World} {B n : Nat} {v : Value} {xs : List Int} (h : Its w B v xs) : Its (w.drewN n) B v xs := h
theorem Its.of_own {w : World} {base : Nat} {e : TypeId} {v : Value} {xs : List Int} (h : w.ownsRow base e 1 v xs.length (xs.map (fun z => Value.int .i64 z))) : Its w w.heap.size v xs := by
  have h' := h
  rcases h.2 with ⟨h1, h2⟩ | ⟨g, cap, cur, h1, h2, h3, h4, h5, h6, h7⟩
  · exact ⟨none, 0, 0, by rw [h1], h2, Nat.le_refl _, by simp [maxLen], fun hn => by omega⟩
  · refine ⟨_, _, cap, h1, rfl, h4, h5, fun hn => ⟨g, 0, rfl, (Array.getElem?_eq_some_iff.1 h3).1, fun j hj => ?_⟩⟩
    rw [h1] at h'
    rw [Nat.zero_add, h'.cellAt j (by simpa using hj)]
    simp [hj]
theorem Its.of_row {w : World} {a : Option Addr} {len cap : Nat} {zs : List Int}
    (h : (a = none ∧ len = 0 ∧ cap = 0 ∧ zs = []) ∨
      ∃ x, a = some x ∧ len ≤ cap ∧ cap ≤ maxLen ∧ zs.length = cap ∧ (∀ i, i < zs.length → w.cell? (x.add i) = some (.int .i64 (zs.getD i 0))) ∧ ∀ n ∈ zs, (Lit.int .i64 n).wf = true) :
    ∃ xs, xs.length = len ∧ Its w w.heap.size (.slice a len cap) xs ∧ ∀ n ∈ xs, (Lit.int .i64 n).wf = true := by
  rcases h with ⟨rfl, rfl, rfl, rfl⟩ | ⟨x, rfl, hl, hm, hz, hcell, hwf⟩
  · exact ⟨[], rfl, Its.nil_ _ _, fun n hn => by cases hn⟩
  · have hlen : (zs.take len).length = len := by simp; omega
    refine ⟨zs.take len, hlen, ⟨some x, len, cap, rfl, hlen, hl, hm, fun h0 => ?_⟩, fun n hn => hwf n (List.mem_of_mem_take hn)⟩
    obtain ⟨b, off, spot⟩ := x
    have hc := hcell 0 (by omega)
    have hspot : spot = none := by simpa [Addr.add] using World.cell?_spot hc
    subst hspot
    have e2 : ∀ q, (Addr.mk b off none).add q = ⟨b, off + q, none⟩ := fun q => by unfold Addr.add; split <;> simp_all
    refine ⟨b, off, rfl, ?_, fun j hj => ?_⟩
    · rw [e2] at hc
      exact World.block_lt_of_cell? w _ hc
    · have h1 := hcell j (by omega)
      rw [e2] at h1
      rw [h1]
      have : j < zs.length := by omega
      simp [hj, this]
/-- A slice that lies in none of these blocks. -/
def Off (K : Nat → Prop) (v : Value) : Prop := ∀ b o s n c, v = .slice (some ⟨b, o, s⟩) n c → 0 < n → ¬ K b
theorem Its.off {w : World} {B : Nat} {v : Value} {fs : List Int} {K : Nat → Prop} (h : Its w B v fs) (hK : ∀ k, K k → B ≤ k) : Off K v := by
  intro b o s n c e hn hk
  have h1 := hK b hk
  obtain ⟨A', n', c2, e2, _, _, _, h2⟩ := h
  rw [e] at e2
  injection e2 with e3 e4 e5
  obtain ⟨b2, o2, e6, h4, _⟩ := h2 (by omega)
  rw [← e3] at e6
  injection e6 with e6
  injection e6 with e6
  omega
theorem Its.of_lit {w : World} {g : Nat} {t : TypeId} {xs : List Int} (h : Blk w g t (xs.map (fun z => Value.int .i64 z)).toArray) (hm : xs.length ≤ maxLen) : Its w w.heap.size (.slice (some ⟨g, 0, none⟩) xs.length xs.length) xs := by
  refine ⟨_, _, _, rfl, rfl, Nat.le_refl _, hm, fun _ => ⟨g, 0, rfl, h.lt, fun j hj => ?_⟩⟩
  rw [Nat.zero_add, h.cellL]
  simp [hj]
end Go.Proofs.Ytkdniihnilcpfaa
