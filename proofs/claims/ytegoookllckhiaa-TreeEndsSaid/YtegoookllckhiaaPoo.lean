/-
  A pool as lists: each frame's use, each section's zone, and which sections are isolated; what Online, Offline and Alloc make of it. Nothing of the program is named here.
  Conditions: none beside those that each line bears.
-/
import Derived.Test.YtegoookllckhiaaBas
namespace Go.Proofs.Ytegoookllckhiaa
open Go.RowKit
set_option linter.unusedVariables false

/-- Uses, zones, isolated. -/
structure PS where
  u : List Nat
  z : List Nat
  i : List Bool
structure PsOk (p : PS) : Prop where
  u : p.u.length = 1024
  z : p.z.length = 32
  i : p.i.length = 32
  ulo : ∀ x ∈ p.u, x ≤ 6
  zlo : ∀ x ∈ p.z, x ≤ 3
def ps0 : PS := ⟨List.replicate 1024 0, List.replicate 32 0, List.replicate 32 false⟩
theorem getD_set_same {α : Type} (l : List α) (k : Nat) (v d : α) (h : k < l.length) : (l.set k v).getD k d = v := by simp [h]
theorem getD_set_ne {α : Type} (l : List α) (k j : Nat) (v d : α) (h : j ≠ k) : (l.set k v).getD j d = l.getD j d := by
  simp only [List.getD_eq_getElem?_getD]
  rw [List.getElem?_set_ne (fun e => h e.symm)]
theorem getD_mem_or {α : Type} (l : List α) (k : Nat) (d : α) (h : k < l.length) : l.getD k d ∈ l := by
  have e : l.getD k d = l[k] := by simp [h]
  rw [e]
  exact List.getElem_mem _
theorem PsOk.ule {p : PS} (h : PsOk p) (f : Nat) : p.u.getD f 0 ≤ 6 := by
  by_cases c : f < p.u.length
  · exact h.ulo _ (getD_mem_or _ _ _ c)
  · rw [List.getD_eq_getElem?_getD, List.getElem?_eq_none (by omega)]
    exact Nat.zero_le _
theorem PsOk.zle {p : PS} (h : PsOk p) (f : Nat) : p.z.getD f 0 ≤ 3 := by
  by_cases c : f < p.z.length
  · exact h.zlo _ (getD_mem_or _ _ _ c)
  · rw [List.getD_eq_getElem?_getD, List.getElem?_eq_none (by omega)]
    exact Nat.zero_le _
theorem PsOk.setU {p : PS} (h : PsOk p) (f v : Nat) (hv : v ≤ 6) : PsOk ⟨p.u.set f v, p.z, p.i⟩ := ⟨by simp [h.u], h.z, h.i, fun x hx => by
  rcases List.mem_or_eq_of_mem_set hx with hx | rfl
  · exact h.ulo x hx
  · exact hv, h.zlo⟩
theorem PsOk.setZ {p : PS} (h : PsOk p) (s v : Nat) (hv : v ≤ 3) : PsOk ⟨p.u, p.z.set s v, p.i⟩ := ⟨h.u, by simp [h.z], h.i, h.ulo, fun x hx => by
  rcases List.mem_or_eq_of_mem_set hx with hx | rfl
  · exact h.zlo x hx
  · exact hv⟩
theorem PsOk.setI {p : PS} (h : PsOk p) (s : Nat) (b : Bool) : PsOk ⟨p.u, p.z, p.i.set s b⟩ := ⟨h.u, h.z, by simp [h.i], h.ulo, h.zlo⟩
theorem ps0_ok : PsOk ps0 := by
  refine ⟨List.length_replicate, List.length_replicate, List.length_replicate, fun x hx => ?_, fun x hx => ?_⟩
  · have := List.eq_of_mem_replicate (show x ∈ List.replicate 1024 0 from hx); omega
  · have := List.eq_of_mem_replicate (show x ∈ List.replicate 32 0 from hx); omega

/-! ### a span of uses -/
/-- Of the frames from a up to b each has what g says of what it had. -/
def spanU (g : Nat → Nat) (u : List Nat) (a b : Nat) : List Nat := (List.range u.length).map (fun f => if a ≤ f ∧ f < b then g (u.getD f 0) else u.getD f 0)
theorem spanU_length (g : Nat → Nat) (u : List Nat) (a b : Nat) : (spanU g u a b).length = u.length := by simp [spanU]
theorem spanU_getD (g : Nat → Nat) (u : List Nat) (a b f : Nat) (hf : f < u.length) : (spanU g u a b).getD f 0 = if a ≤ f ∧ f < b then g (u.getD f 0) else u.getD f 0 := by simp [spanU, hf]
theorem listN_ext {l l' : List Nat} (hl : l.length = l'.length) (h : ∀ x, x < l.length → l.getD x 0 = l'.getD x 0) : l = l' := by
  refine List.ext_getElem hl fun x h1 h2 => ?_
  have := h x h1
  simpa [h1, h2] using this
theorem spanU_none (g : Nat → Nat) (u : List Nat) (a : Nat) : spanU g u a a = u := by
  refine listN_ext (spanU_length _ _ _ _) fun f hf => ?_
  rw [spanU_length] at hf
  rw [spanU_getD _ _ _ _ _ hf, if_neg (by omega)]
theorem spanU_succ (g : Nat → Nat) (u : List Nat) (a b : Nat) (hab : a ≤ b) (hb : b < u.length) : spanU g u a (b + 1) = (spanU g u a b).set b (g (u.getD b 0)) := by
  refine listN_ext (by simp [spanU_length]) fun f hf => ?_
  rw [spanU_length] at hf
  rw [spanU_getD _ _ _ _ _ hf]
  by_cases e : f = b
  · subst e
    rw [if_pos ⟨hab, by omega⟩, getD_set_same _ _ _ _ (by rw [spanU_length]; exact hf)]
  · rw [getD_set_ne _ _ _ _ _ e, spanU_getD _ _ _ _ _ hf]
    by_cases c : a ≤ f ∧ f < b
    · rw [if_pos c, if_pos ⟨c.1, by omega⟩]
    · rw [if_neg c, if_neg (by omega)]
/-- One that g leaves as it was. -/
theorem spanU_skip (g : Nat → Nat) (u : List Nat) (a b : Nat) (hab : a ≤ b) (hb : b < u.length) (hg : g (u.getD b 0) = u.getD b 0) : spanU g u a (b + 1) = spanU g u a b := by
  rw [spanU_succ g u a b hab hb, hg]
  refine listN_ext (by simp) fun f hf => ?_
  by_cases e : f = b
  · subst e
    rw [getD_set_same _ _ _ _ (by rw [spanU_length]; exact hb), spanU_getD _ _ _ _ _ hb, if_neg (by omega)]
  · rw [getD_set_ne _ _ _ _ _ e]
theorem spanU_at (g : Nat → Nat) (u : List Nat) (a b : Nat) (hb : b < u.length) : (spanU g u a b).getD b 0 = u.getD b 0 := by
  rw [spanU_getD _ _ _ _ _ hb, if_neg (by omega)]
theorem spanU_lo {g : Nat → Nat} {u : List Nat} {a b : Nat} (hu : ∀ x ∈ u, x ≤ 6) (hg : ∀ x, x ≤ 6 → g x ≤ 6) : ∀ x ∈ spanU g u a b, x ≤ 6 := by
  intro x hx
  obtain ⟨f, hf, rfl⟩ := List.mem_map.1 hx
  rw [List.mem_range] at hf
  have h := hu _ (getD_mem_or u f 0 hf)
  split
  · exact hg _ h
  · exact h
theorem PsOk.span {p : PS} (h : PsOk p) {g : Nat → Nat} (hg : ∀ x, x ≤ 6 → g x ≤ 6) (a b : Nat) : PsOk ⟨spanU g p.u a b, p.z, p.i⟩ := ⟨by rw [spanU_length]; exact h.u, h.z, h.i, spanU_lo h.ulo hg, h.zlo⟩

/-! ### Online -/
def freshG (x : Nat) : Nat := if x = 6 then 6 else 1
/-- Those of the section that are bad. -/
def badU (s : Nat) (u : List Nat) (bs : List Int) : List Nat := bs.foldl (fun u b => if 32 * (s : Int) ≤ b ∧ b < 32 * (s : Int) + 32 then u.set b.toNat 6 else u) u
theorem badU_snoc (s : Nat) (u : List Nat) (bs : List Int) (b : Int) : badU s u (bs ++ [b]) = if 32 * (s : Int) ≤ b ∧ b < 32 * (s : Int) + 32 then (badU s u bs).set b.toNat 6 else badU s u bs := by
  unfold badU
  rw [List.foldl_append]
  rfl
theorem badU_length (s : Nat) (bs : List Int) : ∀ u, (badU s u bs).length = u.length := by
  induction bs with
  | nil => intro u; rfl
  | cons b bs ih =>
    intro u
    show (badU s _ bs).length = _
    rw [ih]
    show (if 32 * (s : Int) ≤ b ∧ b < 32 * (s : Int) + 32 then u.set b.toNat 6 else u).length = u.length
    split <;> simp
theorem PsOk.badU (s : Nat) (bs : List Int) : ∀ {p : PS}, PsOk p → PsOk ⟨badU s p.u bs, p.z, p.i⟩ := by
  induction bs with
  | nil => intro p h; exact h
  | cons b bs ih =>
    intro p h
    have h2 : PsOk ⟨if 32 * (s : Int) ≤ b ∧ b < 32 * (s : Int) + 32 then p.u.set b.toNat 6 else p.u, p.z, p.i⟩ := by
      split
      · exact h.setU _ 6 (Nat.le_refl _)
      · exact h
    exact ih h2
/-- What Online answers, and what there is then. -/
def onP (p : PS) (s z : Int) (bs : List Int) : Nat × PS :=
  if (s < 0 ∨ 31 < s) ∨ (z ≠ 2 ∧ z ≠ 3) then (1, p) else if p.z.getD s.toNat 0 ≠ 0 then (3, p)
  else (0, ⟨badU s.toNat (spanU freshG p.u (32 * s.toNat) (32 * s.toNat + 32)) bs, p.z.set s.toNat z.toNat, p.i.set s.toNat false⟩)
theorem onP_ok {p : PS} (h : PsOk p) (s z : Int) (bs : List Int) : PsOk (onP p s z bs).2 := by
  unfold onP
  split
  · exact h
  · split
    · exact h
    · rename_i c _
      have hg : ∀ x, x ≤ 6 → freshG x ≤ 6 := fun x hx => by unfold freshG; split <;> omega
      exact (((PsOk.badU s.toNat bs (h.span hg _ _)).setZ s.toNat z.toNat (by omega)).setI s.toNat false)

/-! ### Offline -/
def goneG (x : Nat) : Nat := if x = 1 then 0 else x
/-- Is one of the section's frames used? -/
def busyU (u : List Nat) (s : Nat) : Bool := (List.range 32).any (fun j => decide (u.getD (32 * s + j) 0 ≠ 1) && decide (u.getD (32 * s + j) 0 ≠ 6))
theorem busyU_no {u : List Nat} {s : Nat} : busyU u s = false ↔ ∀ j, j < 32 → u.getD (32 * s + j) 0 = 1 ∨ u.getD (32 * s + j) 0 = 6 := by
  unfold busyU
  rw [List.any_eq_false]
  constructor
  · intro h j hj
    have := h j (List.mem_range.2 hj)
    simp only [Bool.and_eq_true, decide_eq_true_eq] at this
    omega
  · intro h j hj
    have := h j (List.mem_range.1 hj)
    simp only [Bool.and_eq_true, decide_eq_true_eq]
    omega
def offP (p : PS) (s : Int) : Nat × PS :=
  if s < 0 ∨ 31 < s then (1, p) else if p.z.getD s.toNat 0 = 0 then (2, p)
  else if busyU p.u s.toNat = true then (5, p)
  else (0, ⟨spanU goneG p.u (32 * s.toNat) (32 * s.toNat + 32), p.z.set s.toNat 0, p.i.set s.toNat false⟩)

theorem offP_ok {p : PS} (h : PsOk p) (s : Int) : PsOk (offP p s).2 := by
  unfold offP
  split
  · exact h
  · split
    · exact h
    · split
      · exact h
      · have hg : ∀ x, x ≤ 6 → goneG x ≤ 6 := fun x hx => by unfold goneG; split <;> omega
        exact (((h.span hg _ _).setZ s.toNat 0 (by omega)).setI s.toNat false)

/-! ### Alloc -/
/-- Frames from f on, so many, are free, in a section of that zone that is not isolated. -/
def RunF (p : PS) (z sz f : Nat) : Prop := f % sz = 0 ∧ f < 1024 ∧ p.z.getD (f / 32) 0 = z ∧ p.i.getD (f / 32) false = false ∧ ∀ k, f ≤ k → k < f + sz → p.u.getD k 0 = 1
def FirstF (p : PS) (z sz : Nat) : Option Nat → Prop
  | some f => RunF p z sz f ∧ ∀ g, g < f → ¬ RunF p z sz g
  | none => ∀ g, ¬ RunF p z sz g
theorem FirstF.uniq {p : PS} {z sz : Nat} {a b : Option Nat} (ha : FirstF p z sz a) (hb : FirstF p z sz b) : a = b := by
  match a, b, ha, hb with
  | some f, some g, ⟨h1, h2⟩, ⟨h3, h4⟩ =>
    have e1 : ¬ f < g := fun h => h4 f h h1
    have e2 : ¬ g < f := fun h => h2 g h h3
    rw [show f = g by omega]
  | some f, none, ⟨h1, _⟩, h => exact absurd h1 (h f)
  | none, some g, h, ⟨h1, _⟩ => exact absurd h1 (h g)
  | none, none, _, _ => rfl
/-- What Alloc answers: the frame, the error, and what there is then. -/
def AllocIs (p : PS) (use o : Int) (m : Bool) (f e : Nat) (p' : PS) : Prop :=
  ((use < 2 ∨ 5 < use) ∨ (o < 0 ∨ 5 < o)) ∧ f = 0 ∧ e = 1 ∧ p' = p ∨
  ¬ ((use < 2 ∨ 5 < use) ∨ (o < 0 ∨ 5 < o)) ∧ ∃ r3 r2, FirstF p 3 (2 ^ o.toNat) r3 ∧ FirstF p 2 (2 ^ o.toNat) r2 ∧
    match (if m then r3.or r2 else r2) with
    | some g => f = g ∧ e = 0 ∧ p' = ⟨spanU (fun _ => use.toNat) p.u g (g + 2 ^ o.toNat), p.z, p.i⟩
    | none => f = 0 ∧ e = 4 ∧ p' = p
theorem AllocIs.uniq {p p1 p2 : PS} {use o : Int} {m : Bool} {f1 e1 f2 e2 : Nat} (h1 : AllocIs p use o m f1 e1 p1) (h2 : AllocIs p use o m f2 e2 p2) : f1 = f2 ∧ e1 = e2 ∧ p1 = p2 := by
  rcases h1 with ⟨a, rfl, rfl, rfl⟩ | ⟨a, r3, r2, b3, b2, h1⟩
  · rcases h2 with ⟨_, rfl, rfl, rfl⟩ | ⟨b, _⟩
    · exact ⟨rfl, rfl, rfl⟩
    · exact absurd a b
  · rcases h2 with ⟨b, _⟩ | ⟨_, s3, s2, c3, c2, h2⟩
    · exact absurd b a
    · obtain rfl := b3.uniq c3
      obtain rfl := b2.uniq c2
      revert h1 h2
      generalize (if m then r3.or r2 else r2) = r
      cases r with
      | none => rintro ⟨rfl, rfl, rfl⟩ ⟨rfl, rfl, rfl⟩; exact ⟨rfl, rfl, rfl⟩
      | some g => rintro ⟨rfl, rfl, rfl⟩ ⟨rfl, rfl, rfl⟩; exact ⟨rfl, rfl, rfl⟩
theorem AllocIs.ok {p p' : PS} {use o : Int} {m : Bool} {f e : Nat} (h : AllocIs p use o m f e p') (hp : PsOk p) : PsOk p' := by
  rcases h with ⟨_, _, _, rfl⟩ | ⟨a, r3, r2, _, _, h⟩
  · exact hp
  · revert h
    generalize (if m then r3.or r2 else r2) = r
    cases r with
    | none => rintro ⟨_, _, rfl⟩; exact hp
    | some g => rintro ⟨_, _, rfl⟩; exact hp.span (fun x _ => by omega) _ _
end Go.Proofs.Ytegoookllckhiaa
