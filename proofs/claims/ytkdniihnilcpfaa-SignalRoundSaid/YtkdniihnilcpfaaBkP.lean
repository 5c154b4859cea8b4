/-
  Places of processes and lists of them in order (nothing of the program).
  Conditions: none.
-/
import Derived.Test.YtkdniihnilcpfaaBas
namespace Go.Proofs.Ytkdniihnilcpfaa
open Go.RowKit
set_option linter.unusedVariables false

structure Pl where
  c : Int
  g : Int
  deriving DecidableEq
/-- By process, then by page. -/
def ltP (a b : Pl) : Prop := a.c < b.c ∨ a.c = b.c ∧ a.g < b.g
instance (a b : Pl) : Decidable (ltP a b) := by unfold ltP; exact inferInstance
theorem ltP.irr (a : Pl) : ¬ ltP a a := by unfold ltP; omega
theorem ltP.ne {a b : Pl} (h : ltP a b) : a ≠ b := fun e => ltP.irr a (by rw [← e] at h; exact h)
theorem ltP.trans {a b c : Pl} (h : ltP a b) (k : ltP b c) : ltP a c := by unfold ltP at *; omega
theorem ltP.asym {a b : Pl} (h : ltP a b) : ¬ ltP b a := fun k => ltP.irr a (h.trans k)
theorem ltP.tri {a b : Pl} (h : ¬ ltP a b) (k : a ≠ b) : ltP b a := by
  obtain ⟨a1, a2⟩ := a
  obtain ⟨b1, b2⟩ := b
  unfold ltP at *
  simp only [ne_eq, Pl.mk.injEq] at *
  omega
abbrev SrtP (l : List Pl) : Prop := l.Pairwise ltP
/-- A place into a list, once. -/
def putP : List Pl → Pl → List Pl
  | [], p => [p]
  | x :: l, p => if ltP x p then x :: putP l p else if x = p then x :: l else p :: x :: l
theorem mem_putP {l : List Pl} {p q : Pl} : q ∈ putP l p ↔ q = p ∨ q ∈ l := by
  induction l with
  | nil => simp [putP]
  | cons x l ih =>
    unfold putP
    split
    · rw [List.mem_cons, ih, List.mem_cons]
      constructor
      · rintro (h | h | h)
        · exact Or.inr (Or.inl h)
        · exact Or.inl h
        · exact Or.inr (Or.inr h)
      · rintro (h | h | h)
        · exact Or.inr (Or.inl h)
        · exact Or.inl h
        · exact Or.inr (Or.inr h)
    · split
      · rename_i h
        subst h
        rw [List.mem_cons]
        constructor
        · exact fun h => Or.inr h
        · rintro (h | h)
          · exact Or.inl h
          · exact h
      · rw [List.mem_cons]
theorem srt_putP {l : List Pl} {p : Pl} (h : SrtP l) : SrtP (putP l p) := by
  induction l with
  | nil => exact List.pairwise_singleton _ _
  | cons x l ih =>
    obtain ⟨h1, h2⟩ := List.pairwise_cons.1 h
    unfold putP
    split
    · rename_i c
      refine List.pairwise_cons.2 ⟨fun y hy => ?_, ih h2⟩
      rcases mem_putP.1 hy with rfl | hy
      · exact c
      · exact h1 y hy
    · split
      · exact h
      · rename_i c1 c2
        refine List.pairwise_cons.2 ⟨fun y hy => ?_, h⟩
        rcases List.mem_cons.1 hy with rfl | hy
        · exact ltP.tri c1 c2
        · exact (ltP.tri c1 c2).trans (h1 y hy)
theorem putP_in {l : List Pl} {p : Pl} (h : SrtP l) (hp : p ∈ l) : putP l p = l := by
  induction l with
  | nil => exact absurd hp (List.not_mem_nil)
  | cons x l ih =>
    obtain ⟨h1, h2⟩ := List.pairwise_cons.1 h
    unfold putP
    rcases List.mem_cons.1 hp with rfl | hp
    · rw [if_neg (ltP.irr _), if_pos rfl]
    · rw [if_pos (h1 p hp), ih h2 hp]
theorem putP_length (l : List Pl) (p : Pl) : (putP l p).length ≤ l.length + 1 := by
  induction l with
  | nil => exact Nat.le_refl _
  | cons x l ih =>
    unfold putP
    split
    · simp only [List.length_cons]; omega
    · split <;> simp only [List.length_cons] <;> omega
theorem putP_ne (l : List Pl) (p : Pl) : putP l p ≠ [] := fun h => by
  have : p ∈ putP l p := mem_putP.2 (Or.inl rfl)
  rw [h] at this
  exact absurd this List.not_mem_nil
/-- Two lists in order that have the same are one. -/
theorem srt_ext {l m : List Pl} (h : SrtP l) (k : SrtP m) (he : ∀ q, q ∈ l ↔ q ∈ m) : l = m := by
  induction l generalizing m with
  | nil =>
    cases m with
    | nil => rfl
    | cons y m => exact absurd ((he y).2 List.mem_cons_self) List.not_mem_nil
  | cons x l ih =>
    cases m with
    | nil => exact absurd ((he x).1 List.mem_cons_self) List.not_mem_nil
    | cons y m =>
      obtain ⟨h1, h2⟩ := List.pairwise_cons.1 h
      obtain ⟨k1, k2⟩ := List.pairwise_cons.1 k
      have exy : x = y := by
        rcases List.mem_cons.1 ((he x).1 List.mem_cons_self) with e | e
        · exact e
        · rcases List.mem_cons.1 ((he y).2 List.mem_cons_self) with e' | e'
          · exact e'.symm
          · exact absurd (h1 y e') (ltP.asym (k1 x e))
      subst exy
      congr 1
      refine ih h2 k2 fun q => ?_
      constructor
      · intro hq
        rcases List.mem_cons.1 ((he q).1 (List.mem_cons_of_mem _ hq)) with e | e
        · exact absurd e (h1 q hq).ne.symm
        · exact e
      · intro hq
        rcases List.mem_cons.1 ((he q).2 (List.mem_cons_of_mem _ hq)) with e | e
        · exact absurd e (k1 q hq).ne.symm
        · exact e
/-- Where a place comes in: all ahead of it are less. -/
def posP : List Pl → Pl → Nat
  | [], _ => 0
  | x :: l, p => if ltP x p then posP l p + 1 else 0
theorem posP_le (l : List Pl) (p : Pl) : posP l p ≤ l.length := by
  induction l with
  | nil => exact Nat.le_refl _
  | cons x l ih =>
    unfold posP
    split
    · simp only [List.length_cons]; omega
    · exact Nat.zero_le _
theorem posP_lt {l : List Pl} {p : Pl} {j : Nat} (h : j < posP l p) : ∃ x, l[j]? = some x ∧ ltP x p := by
  induction l generalizing j with
  | nil => exact absurd h (Nat.not_lt_zero _)
  | cons x l ih =>
    unfold posP at h
    split at h
    · rename_i c
      cases j with
      | zero => exact ⟨x, rfl, c⟩
      | succ j =>
        obtain ⟨y, h1, h2⟩ := ih (show j < posP l p by omega)
        exact ⟨y, by simpa using h1, h2⟩
    · exact absurd h (Nat.not_lt_zero _)
theorem posP_at {l : List Pl} {p x : Pl} (h : l[posP l p]? = some x) : ¬ ltP x p := by
  induction l with
  | nil => cases h
  | cons y l ih =>
    unfold posP at h
    split at h
    · exact ih (by simpa using h)
    · rename_i c
      simp only [List.getElem?_cons_zero, Option.some.injEq] at h
      rw [← h]; exact c
theorem posP_eq {l : List Pl} {p : Pl} {k : Nat} (hk : k ≤ l.length) (h1 : ∀ j, j < k → ∃ x, l[j]? = some x ∧ ltP x p) (h2 : ∀ x, l[k]? = some x → ¬ ltP x p) : posP l p = k := by
  rcases Nat.lt_trichotomy (posP l p) k with c | c | c
  · obtain ⟨x, e, lt⟩ := h1 _ c
    exact absurd lt (posP_at e)
  · exact c
  · obtain ⟨x, e, lt⟩ := posP_lt c
    exact absurd lt (h2 x e)
theorem putP_there {l : List Pl} {p : Pl} (h : l[posP l p]? = some p) : putP l p = l := by
  induction l with
  | nil => cases h
  | cons y l ih =>
    unfold posP at h
    unfold putP
    split at h
    · rename_i c
      rw [if_pos c, ih (by simpa using h)]
    · rename_i c
      simp only [List.getElem?_cons_zero, Option.some.injEq] at h
      rw [if_neg c, if_pos h]
theorem putP_cut {l : List Pl} {p : Pl} (h : l[posP l p]? ≠ some p) : putP l p = l.take (posP l p) ++ [p] ++ l.drop (posP l p) := by
  induction l with
  | nil => rfl
  | cons y l ih =>
    unfold posP at h ⊢
    unfold putP
    split
    · rename_i c
      rw [if_pos c] at h
      rw [ih (by simpa using h)]
      rfl
    · rename_i c
      rw [if_neg c] at h
      rw [if_neg (by simpa using h)]
      rfl
/-- What goes out. -/
theorem erase_at {l : List Pl} {p : Pl} {k : Nat} (h : l[k]? = some p) (hn : ∀ j, j < k → l[j]? ≠ some p) : l.erase p = l.take k ++ l.drop (k + 1) := by
  induction l generalizing k with
  | nil => cases h
  | cons y l ih =>
    cases k with
    | zero =>
      simp only [List.getElem?_cons_zero, Option.some.injEq] at h
      subst h
      simp
    | succ k =>
      have hy : y ≠ p := fun e => hn 0 (by omega) (by simp [e])
      rw [List.erase_cons_tail (by simpa using hy), ih (by simpa using h) (fun j hj => by have := hn (j + 1) (by omega); simpa using this)]
      rfl
theorem srt_erase {l : List Pl} (h : SrtP l) (p : Pl) : SrtP (l.erase p) := List.Pairwise.sublist List.erase_sublist h
theorem mem_erase_srt {l : List Pl} (h : SrtP l) {p q : Pl} : q ∈ l.erase p ↔ q ≠ p ∧ q ∈ l := by
  have hn : l.Nodup := List.Pairwise.imp (fun h => h.ne) h
  exact hn.mem_erase_iff
/-- Who had one has the other too. -/
def mrgP (a b : List Pl) : List Pl := b.foldl putP a
theorem mem_mrgP {a b : List Pl} {q : Pl} : q ∈ mrgP a b ↔ q ∈ a ∨ q ∈ b := by
  unfold mrgP
  induction b generalizing a with
  | nil => simp
  | cons x b ih =>
    rw [List.foldl_cons, ih, mem_putP, List.mem_cons]
    constructor
    · rintro ((h | h) | h)
      · exact Or.inr (Or.inl h)
      · exact Or.inl h
      · exact Or.inr (Or.inr h)
    · rintro (h | h | h)
      · exact Or.inl (Or.inr h)
      · exact Or.inl (Or.inl h)
      · exact Or.inr h
theorem srt_mrgP {a b : List Pl} (h : SrtP a) : SrtP (mrgP a b) := by
  unfold mrgP
  induction b generalizing a with
  | nil => exact h
  | cons x b ih => exact ih (srt_putP h)
theorem mrgP_length (a b : List Pl) : (mrgP a b).length ≤ a.length + b.length := by
  unfold mrgP
  induction b generalizing a with
  | nil => simp
  | cons x b ih =>
    have h1 := ih (a := putP a x)
    have h2 := putP_length a x
    rw [List.foldl_cons, List.length_cons]
    omega
theorem mrgP_snoc (a b : List Pl) (x : Pl) : mrgP a (b ++ [x]) = putP (mrgP a b) x := by
  unfold mrgP
  rw [List.foldl_append]
  rfl
end Go.Proofs.Ytkdniihnilcpfaa
