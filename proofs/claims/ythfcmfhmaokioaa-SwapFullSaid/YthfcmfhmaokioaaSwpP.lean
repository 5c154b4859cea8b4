/-
  Who holds each of the thirty-two slots (nothing of the program).
  Conditions: none.
-/
import Derived.Test.YthfcmfhmaokioaaBkP
namespace Go.Proofs.Ythfcmfhmaokioaa
open Go.RowKit
set_option linter.unusedVariables false

abbrev SS := Nat → List Pl
def ss0 : SS := fun _ => []
/-- Is there such a slot? -/
def isSlot (n : Int) : Prop := 0 ≤ n ∧ n < 32
instance (n : Int) : Decidable (isSlot n) := by unfold isSlot; exact inferInstance
def updS (s : SS) (n : Nat) (l : List Pl) : SS := fun k => if k = n then l else s k
theorem updS_same (s : SS) (n : Nat) (l : List Pl) : updS s n l n = l := if_pos rfl
theorem updS_other (s : SS) (n : Nat) (l : List Pl) {k : Nat} (h : k ≠ n) : updS s n l k = s k := if_neg h
def holdS (s : SS) (n : Int) (p : Pl) : SS := if isSlot n then updS s n.toNat (putP (s n.toNat) p) else s
def relS (s : SS) (n : Int) (p : Pl) : SS := if isSlot n then updS s n.toNat ((s n.toNat).erase p) else s
def inS (s : SS) (n : Int) (p : Pl) : Bool := decide (isSlot n) && decide (p ∈ s n.toNat)
/-- The least that nobody holds. -/
def TakeIs (s : SS) : Option Nat → Prop
  | some n => n < 32 ∧ s n = [] ∧ ∀ m, m < n → s m ≠ []
  | none => ∀ m, m < 32 → s m ≠ []
def takeV (r : Option Nat) : Value := .tuple #[.int .i64 ((r.getD 0 : Nat) : Int), .bool r.isSome]
theorem TakeIs.uniq {s : SS} {r t : Option Nat} (h : TakeIs s r) (k : TakeIs s t) : r = t := by
  match r, t, h, k with
  | none, none, _, _ => rfl
  | some n, none, ⟨h1, h2, _⟩, k => exact absurd h2 (k n h1)
  | none, some n, k, ⟨h1, h2, _⟩ => exact absurd h2 (k n h1)
  | some n, some m, ⟨h1, h2, h3⟩, ⟨k1, k2, k3⟩ =>
    rcases Nat.lt_trichotomy n m with c | c | c
    · exact absurd h2 (k3 n c)
    · rw [c]
    · exact absurd k2 (h3 m c)
/-- Does one of proc hold it? -/
def procB (l : List Pl) (c : Int) : Bool := l.any (fun p => decide (p.c = c))
def slotsS (s : SS) (c : Int) (n : Nat) : List Int := ((List.range n).filter (fun k => procB (s k) c)).map (fun (k : Nat) => (k : Int))
def usedS (s : SS) (n : Nat) : Nat := ((List.range n).filter (fun k => decide (s k ≠ []))).length
theorem slotsS_succ (s : SS) (c : Int) (n : Nat) : slotsS s c (n + 1) = slotsS s c n ++ if procB (s n) c then [(n : Int)] else [] := by
  unfold slotsS
  rw [List.range_succ, List.filter_append, List.map_append]
  cases h : procB (s n) c with
  | true => simp only [List.filter_cons, h]; simp
  | false => simp only [List.filter_cons, h]; simp
theorem usedS_succ (s : SS) (n : Nat) : usedS s (n + 1) = usedS s n + if s n ≠ [] then 1 else 0 := by
  unfold usedS
  rw [List.range_succ, List.filter_append, List.length_append]
  by_cases h : s n = []
  · simp only [List.filter_cons, h]; simp
  · simp only [List.filter_cons, h]; simp [h]
theorem slotsS_le (s : SS) (c : Int) (n : Nat) : (slotsS s c n).length ≤ n := by
  unfold slotsS
  rw [List.length_map]
  have := List.length_filter_le (fun k => procB (s k) c) (List.range n)
  rwa [List.length_range] at this
theorem usedS_le (s : SS) (n : Nat) : usedS s n ≤ n := by
  unfold usedS
  have := List.length_filter_le (fun k => decide (s k ≠ [])) (List.range n)
  rwa [List.length_range] at this
/-- All lists are in order. -/
def SsOk (s : SS) : Prop := ∀ n, SrtP (s n)
theorem ss0_ok : SsOk ss0 := fun _ => List.Pairwise.nil
theorem SsOk.upd_ {s : SS} (h : SsOk s) {n : Nat} {l : List Pl} (hl : SrtP l) : SsOk (updS s n l) := fun k => by
  by_cases c : k = n
  · subst c; rw [updS_same]; exact hl
  · rw [updS_other _ _ _ c]; exact h k
end Go.Proofs.Ythfcmfhmaokioaa
