/-
  What append makes of a call's own row and of any row that can be read, elements of any size; two literals and two appends in one drawn region, in each order. Nothing of the program is named here.
  Conditions: none beside those that each line bears.
-/
import Derived.Test.YtkdniihnilcpfaaBas
namespace Go.Proofs.Ytkdniihnilcpfaa
open Go.RowKit
set_option linter.unusedVariables false

/-- A slice of n elements of size cells each that can be read: the cells of all of them. -/
def Rd (w : World) (size : Nat) (v : Value) (n : Nat) (xs : List Value) : Prop :=
  ∃ A c, v = .slice A n c ∧ xs.length = n * size ∧ (∀ u ∈ xs, u.oneCell' = true) ∧ (0 < n → ∃ b o, A = some ⟨b, o, none⟩ ∧ ∀ j u, xs[j]? = some u → w.cell? ⟨b, o + j, none⟩ = some u)
theorem Rd.of_own {w : World} {base size n : Nat} {e : TypeId} {v : Value} {xs : List Value} (h : w.ownsRow base e size v n xs) (h1 : ∀ u ∈ xs, u.oneCell' = true) : Rd w size v n xs := by
  rcases h.2 with ⟨rfl, rfl⟩ | ⟨g, cap, cur, rfl, _⟩
  · exact ⟨none, 0, rfl, h.1, h1, fun h => absurd h (Nat.lt_irrefl _)⟩
  · exact ⟨some ⟨g, 0, none⟩, cap, rfl, h.1, h1, fun _ => ⟨g, 0, rfl, fun j u hj => by have := h.cells (g := g) rfl j u hj; rw [Addr.add_lit] at this; exact this⟩⟩
section
variable {P : Program} {w : World}
theorem run_app (base : Nat) (t ty e : TypeId) (i : TypeInfo) (z : Value) (size bytes : Nat) (ht : P.underlying t = some (.slice e)) (hi : P.info? e = some i) (hz : i.zero = some z)
    (hsize : i.size = size) (hby : i.bytes = bytes) (hzs : z.cells.size = size) (hsz : 0 < size)
    (v : Value) (n : Nat) (xs : List Value) (hown : w.ownsRow base e size v n xs) (u : Value) (m : Nat) (ys : List Value) (hr : Rd w size u m ys)
    (h63 : n + m ≤ maxLen) (hbytes : (n + m) * bytes ≤ 140737488355328) (hbase : base ≤ w.heap.size) :
    ∃ v' w', (Builtin.append_ #[t, t] ty #[v, u]).run P w = .ok v' w' ∧ w'.ownsRow base e size v' (n + m) (xs ++ ys) ∧ w.grownBy w' v.ownBlock := by
  obtain ⟨A, c, rfl, hl, h1, hc⟩ := hr
  by_cases hm : m = 0
  · subst hm
    have hy : ys = [] := List.eq_nil_of_length_eq_zero (by simpa using hl)
    subst hy
    cases A with
    | none =>
      refine ⟨v, w, ?_, by simpa using hown, World.grownBy.refl _ _⟩
      rcases hown.2 with ⟨rfl, rfl⟩ | ⟨g, cap, cur, rfl, _, _, hnc, _⟩
      · simp [Builtin.append_, run_underlying ht, sizeOf, typeInfo, hi, Builtin.lenOf, Builtin.firstCells]
      · simp [Builtin.append_, run_underlying ht, sizeOf, typeInfo, hi, Builtin.lenOf, Builtin.firstCells, hnc, storeCells]
    | some a =>
      obtain ⟨v', w', r, o, g, _⟩ := run_append_own (P := P) w base t ty e i z size bytes ht hi hz hsize hby hzs hsz v n xs hown a 0 c [] (by simp) (fun j u h => by simp at h) (fun u h => by simp at h) h63 hbytes hbase
      exact ⟨v', w', r, o, g⟩
  · obtain ⟨b, o, rfl, hcell⟩ := hc (by omega)
    obtain ⟨v', w', r, o, g, _⟩ := run_append_own (P := P) w base t ty e i z size bytes ht hi hz hsize hby hzs hsz v n xs hown ⟨b, o, none⟩ m c ys hl (fun j u hj => by rw [Addr.add_lit]; exact hcell j u hj) h1 h63 hbytes hbase
    exact ⟨v', w', r, o, g⟩
end
theorem own_below {w w' : World} {base size n : Nat} {e : TypeId} {v : Value} {xs : List Value} (h : w.ownsRow base e size v n xs) (hg : w.grownBy w' v.ownBlock) (hb : base ≤ w.heap.size) : Below base w w' :=
  (Below.refl base w).grown hg hb (fun k hk => (h.lt k hk).1)
theorem Rd.one {w : World} {size g : Nat} {e : TypeId} {us : List Value} (h : ∀ j u, us[j]? = some u → w.cell? ⟨g, j, none⟩ = some u) (hl : us.length = size) (h1 : ∀ u ∈ us, u.oneCell' = true) : Rd w size (.slice (some ⟨g, 0, none⟩) 1 1) 1 us :=
  ⟨some ⟨g, 0, none⟩, 1, rfl, by omega, h1, fun _ => ⟨g, 0, rfl, fun j u hj => by rw [Nat.zero_add]; exact h j u hj⟩⟩
/-! ### 'append(append([]T{}, now...), u)', in whatever order the two literals are laid -/
section
variable {P : Program} {wr : World} (t ty ty' e : TypeId) (i : TypeInfo) (z : Value) (size bytes : Nat) (ht : P.underlying t = some (.slice e)) (hi : P.info? e = some i) (hz : i.zero = some z)
  (hsize : i.size = size) (hby : i.bytes = bytes) (hzs : z.cells.size = size) (hsz : 0 < size)
  (k : Nat) (ys : List Value) (h63 : k + 1 ≤ maxLen) (hbytes : (k + 1) * bytes ≤ 140737488355328)
include ht hi hz hsize hby hzs hsz h63 hbytes
theorem app_first {W : World} {v : Value} (nv : Value) (hl : ∀ W, Below wr.heap.size wr W → Rd W size nv k ys) (hW : Below wr.heap.size wr W) (hv : W.ownsRow wr.heap.size e size v 0 []) :
    ∃ v2 w2, (Builtin.append_ #[t, t] ty #[v, nv]).run P W = .ok v2 w2 ∧ Below wr.heap.size wr w2 ∧ w2.ownsRow wr.heap.size e size v2 k ys ∧ W.grownBy w2 v.ownBlock := by
  have hk : k * bytes ≤ 140737488355328 := Nat.le_trans (Nat.mul_le_mul_right _ (by omega)) hbytes
  obtain ⟨v2, w2, r2, o2, g2⟩ := run_app (P := P) wr.heap.size t ty e i z size bytes ht hi hz hsize hby hzs hsz v 0 [] hv nv k ys (hl W hW) (by omega) (by rw [Nat.zero_add]; exact hk) hW.size
  rw [Nat.zero_add, List.nil_append] at o2
  exact ⟨v2, w2, r2, hW.trans (own_below hv g2 hW.size), o2, g2⟩
theorem app_last {w2 : World} {v2 : Value} {g : Nat} (us : List Value) (hu : us.length = size) (h1 : ∀ u ∈ us, u.oneCell' = true) (h2 : Below wr.heap.size wr w2) (o2 : w2.ownsRow wr.heap.size e size v2 k ys) (hc : ∀ j u, us[j]? = some u → w2.cell? ⟨g, j, none⟩ = some u) :
    ∃ v8 w8, (Builtin.append_ #[t, t] ty' #[v2, .slice (some ⟨g, 0, none⟩) 1 1]).run P w2 = .ok v8 w8 ∧ Below wr.heap.size wr w8 ∧ w8.ownsRow wr.heap.size e size v8 (k + 1) (ys ++ us) := by
  obtain ⟨v8, w8, r8, o8, g8⟩ := run_app (P := P) wr.heap.size t ty' e i z size bytes ht hi hz hsize hby hzs hsz v2 k ys o2 _ 1 us (Rd.one (e := e) hc hu h1) h63 hbytes h2.size
  exact ⟨v8, w8, r8, h2.trans (own_below o2 g8 h2.size), o8⟩
variable (nv : Value) (hl : ∀ W, Below wr.heap.size wr W → Rd W size nv k ys) (us : List Value) (hu : us.length = size) (h1 : ∀ u ∈ us, u.oneCell' = true)
include hl hu h1
theorem app_a : ∃ v2 w2 v8 w8, (Builtin.append_ #[t, t] ty #[.slice (some ⟨wr.heap.size, 0, none⟩) 0 0, nv]).run P (wr.alloc (.cells #[] e)).drew = .ok v2 w2 ∧
    (Builtin.append_ #[t, t] ty' #[v2, .slice (some ⟨w2.heap.size, 0, none⟩) 1 1]).run P (w2.alloc (.cells us.toArray e)) = .ok v8 w8 ∧ Below wr.heap.size wr w2 ∧ Below wr.heap.size wr w8 ∧ w8.ownsRow wr.heap.size e size v8 (k + 1) (ys ++ us) := by
  have b1 : Below wr.heap.size wr (wr.alloc (.cells #[] e)).drew := ((Below.refl _ _).alloc (Nat.le_refl _) _).drew
  have o1 : (wr.alloc (.cells #[] e)).drew.ownsRow wr.heap.size e size (.slice (some ⟨wr.heap.size, 0, none⟩) 0 0) 0 [] :=
    World.ownsRow_lit wr #[] 0 (Nat.le_refl _) (by simp [maxLen]) (by simp)
  obtain ⟨v2, w2, r2, b2, o2, g2⟩ := app_first t ty e i z size bytes ht hi hz hsize hby hzs hsz k ys h63 hbytes nv hl b1 o1
  obtain ⟨v8, w8, r8, b8, o8⟩ := app_last (w2 := w2.alloc (.cells us.toArray e)) (g := w2.heap.size) t ty' e i z size bytes ht hi hz hsize hby hzs hsz k ys h63 hbytes us hu h1 (b2.alloc b2.size _) (o2.alloc _) (fun j u hj => by
    rw [(Blk.new w2 e us.toArray).cell j]; simpa using hj)
  exact ⟨v2, w2, v8, w8, r2, r8, b2, b8, o8⟩
theorem app_b : ∃ v2 w2 v8 w8, (Builtin.append_ #[t, t] ty #[.slice (some ⟨wr.heap.size, 0, none⟩) 0 0, nv]).run P ((wr.alloc (.cells #[] e)).alloc (.cells us.toArray e)).drew = .ok v2 w2 ∧
    (Builtin.append_ #[t, t] ty' #[v2, .slice (some ⟨wr.heap.size + 1, 0, none⟩) 1 1]).run P w2 = .ok v8 w8 ∧ Below wr.heap.size wr w2 ∧ Below wr.heap.size wr w8 ∧ w8.ownsRow wr.heap.size e size v8 (k + 1) (ys ++ us) := by
  have b1 : Below wr.heap.size wr ((wr.alloc (.cells #[] e)).alloc (.cells us.toArray e)).drew := (((Below.refl _ _).alloc (Nat.le_refl _) _).alloc (by simp) _).drew
  have o1 : ((wr.alloc (.cells #[] e)).alloc (.cells us.toArray e)).drew.ownsRow wr.heap.size e size (.slice (some ⟨wr.heap.size, 0, none⟩) 0 0) 0 [] :=
    World.ownsRow.alloc (World.ownsRow_lit wr #[] 0 (Nat.le_refl _) (by simp [maxLen]) (by simp)) _
  obtain ⟨v2, w2, r2, b2, o2, g2⟩ := app_first t ty e i z size bytes ht hi hz hsize hby hzs hsz k ys h63 hbytes nv hl b1 o1
  have hB : Blk w2 (wr.heap.size + 1) e us.toArray := by
    have h0 := Blk.new (wr.alloc (.cells #[] e)) e us.toArray
    rw [show (wr.alloc (.cells #[] e)).heap.size = wr.heap.size + 1 by simp] at h0
    exact (g2.block _ (by simp) (by simp [Value.ownBlock])).trans h0
  obtain ⟨v8, w8, r8, b8, o8⟩ := app_last (w2 := w2) (g := wr.heap.size + 1) t ty' e i z size bytes ht hi hz hsize hby hzs hsz k ys h63 hbytes us hu h1 b2 o2 (fun j u hj => by
    rw [hB.cell j]; simpa using hj)
  exact ⟨v2, w2, v8, w8, r2, r8, b2, b8, o8⟩
theorem app_c : ∃ v2 w2 v8 w8, (Builtin.append_ #[t, t] ty #[.slice (some ⟨wr.heap.size + 1, 0, none⟩) 0 0, nv]).run P ((wr.alloc (.cells us.toArray e)).alloc (.cells #[] e)).drew = .ok v2 w2 ∧
    (Builtin.append_ #[t, t] ty' #[v2, .slice (some ⟨wr.heap.size, 0, none⟩) 1 1]).run P w2 = .ok v8 w8 ∧ Below wr.heap.size wr w2 ∧ Below wr.heap.size wr w8 ∧ w8.ownsRow wr.heap.size e size v8 (k + 1) (ys ++ us) := by
  have b1 : Below wr.heap.size wr ((wr.alloc (.cells us.toArray e)).alloc (.cells #[] e)).drew := (((Below.refl _ _).alloc (Nat.le_refl _) _).alloc (by simp) _).drew
  have o1 : ((wr.alloc (.cells us.toArray e)).alloc (.cells #[] e)).drew.ownsRow wr.heap.size e size (.slice (some ⟨wr.heap.size + 1, 0, none⟩) 0 0) 0 [] := by
    have h := World.ownsRow_lit (base := wr.heap.size) (e := e) (size := size) (wr.alloc (.cells us.toArray e)) #[] 0 (by simp) (by simp [maxLen]) (by simp)
    rw [show (wr.alloc (.cells us.toArray e)).heap.size = wr.heap.size + 1 by simp] at h
    exact h
  obtain ⟨v2, w2, r2, b2, o2, g2⟩ := app_first t ty e i z size bytes ht hi hz hsize hby hzs hsz k ys h63 hbytes nv hl b1 o1
  have hB : Blk w2 wr.heap.size e us.toArray := by
    have h0 := (Blk.new wr e us.toArray).below (B := wr.heap.size + 1) ((Below.refl (wr.heap.size + 1) (wr.alloc (.cells us.toArray e))).alloc (by simp) (.cells #[] e)) (by omega)
    exact (g2.block _ (by simp; omega) (by simp [Value.ownBlock])).trans h0
  obtain ⟨v8, w8, r8, b8, o8⟩ := app_last (w2 := w2) (g := wr.heap.size) t ty' e i z size bytes ht hi hz hsize hby hzs hsz k ys h63 hbytes us hu h1 b2 o2 (fun j u hj => by
    rw [hB.cell j]; simpa using hj)
  exact ⟨v2, w2, v8, w8, r2, r8, b2, b8, o8⟩
end
end Go.Proofs.Ytkdniihnilcpfaa
