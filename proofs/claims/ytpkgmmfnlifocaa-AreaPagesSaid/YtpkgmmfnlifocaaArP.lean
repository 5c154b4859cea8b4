/-
  Areas and lists of areas (nothing of the program): which may be, what is cut out of them, and where one more goes.
  Conditions: none.
-/
import Derived.Test.YtpkgmmfnlifocaaGRow
namespace Go.Proofs.Ytpkgmmfnlifocaa
open Go.RowKit
set_option linter.unusedVariables false

structure Ar where
  fr : Int
  pg : Int
  w : Bool
  kd : Int
  fl : Int
  ofs : Int
deriving DecidableEq
def ar0 : Ar := ⟨0, 0, false, 0, 0, 0⟩
/-- The cells of an area. -/
def arL (a : Ar) : List Value := [.int .i64 a.fr, .int .i64 a.pg, .bool a.w, .int .i64 a.kd, .int .i64 a.fl, .int .i64 a.ofs]
def soundA (a : Ar) : Prop := (1 ≤ a.kd ∧ a.kd ≤ 3 ∧ 0 ≤ a.fr ∧ 1 ≤ a.pg ∧ a.fr ≤ 4095 ∧ a.pg ≤ 4096 - a.fr) ∧ (a.kd = 1 ∧ a.fl = 0 ∧ a.ofs = 0 ∨ a.kd ≠ 1 ∧ 0 ≤ a.fl ∧ a.fl < 4 ∧ 0 ≤ a.ofs ∧ a.ofs < 16 ∧ a.pg ≤ 16 - a.ofs)
instance (a : Ar) : Decidable (soundA a) := by unfold soundA; exact inferInstance
/-- A list: sound areas, by their first page, that do not meet. -/
def listA (l : List Ar) : Prop := (∀ a ∈ l, soundA a) ∧ l.Pairwise (fun a b => a.fr + a.pg ≤ b.fr)
instance (l : List Ar) : Decidable (listA l) := by unfold listA; exact inferInstance
theorem listA_nil : listA [] := ⟨fun a h => absurd h List.not_mem_nil, List.Pairwise.nil⟩
/-- One more behind the last one. -/
theorem listA_snoc {l : List Ar} {a : Ar} (h : listA l) (hs : soundA a) (hl : ∀ b, l.getLast? = some b → b.fr + b.pg ≤ a.fr) : listA (l ++ [a]) := by
  refine ⟨fun x hx => ?_, ?_⟩
  · rcases List.mem_append.1 hx with hx | hx
    · exact h.1 x hx
    · rw [List.mem_singleton.1 hx]; exact hs
  · refine List.pairwise_append.2 ⟨h.2, List.pairwise_singleton _ _, fun x hx y hy => ?_⟩
    rw [List.mem_singleton.1 hy]
    cases hg : l.getLast? with
    | none => rw [List.getLast?_eq_none_iff] at hg; subst hg; cases hx
    | some b =>
      have h1 := hl b hg
      obtain ⟨l', rfl⟩ := List.getLast?_eq_some_iff.1 hg
      rcases List.mem_append.1 hx with hx | hx
      · have h2 := (List.pairwise_append.1 h.2).2.2 x hx b (List.mem_singleton.2 rfl)
        have h3 := (h.1 b (List.mem_append.2 (.inr (List.mem_singleton.2 rfl)))).1
        omega
      · rw [List.mem_singleton.1 hx]; exact h1
theorem listA_take {l : List Ar} (h : listA l) (n : Nat) : listA (l.take n) := ⟨fun a ha => h.1 a (List.mem_of_mem_take ha), h.2.sublist (List.take_sublist _ _)⟩
theorem listA_last {l : List Ar} {a b : Ar} (h : listA (l ++ [a])) (hb : l.getLast? = some b) : soundA a ∧ b.fr + b.pg ≤ a.fr := by
  obtain ⟨l', rfl⟩ := List.getLast?_eq_some_iff.1 hb
  exact ⟨h.1 a (List.mem_append.2 (.inr (List.mem_singleton.2 rfl))), (List.pairwise_append.1 h.2).2.2 b (List.mem_append.2 (.inr (List.mem_singleton.2 rfl))) a (List.mem_singleton.2 rfl)⟩
def maxI (a b : Int) : Int := if a < b then b else a
def minI (a b : Int) : Int := if b < a then b else a
/-- Of an area the pages from one up to another one. -/
def pieceA (a : Ar) (f e : Int) : List Ar :=
  if minI e (a.fr + a.pg) ≤ maxI f a.fr then [] else [⟨maxI f a.fr, minI e (a.fr + a.pg) - maxI f a.fr, a.w, a.kd, a.fl, if a.kd = 1 then a.ofs else a.ofs + maxI f a.fr - a.fr⟩]
theorem pieceA_length (a : Ar) (f e : Int) : (pieceA a f e).length ≤ 1 := by unfold pieceA; split <;> simp
def outA (l : List Ar) (f p : Int) : List Ar := l.flatMap fun a => pieceA a 0 f ++ pieceA a (f + p) 4096
def inA (l : List Ar) (f p : Int) : List Ar := l.flatMap fun a => pieceA a f (f + p)
theorem outA_snoc (l : List Ar) (a : Ar) (f p : Int) : outA (l ++ [a]) f p = outA l f p ++ pieceA a 0 f ++ pieceA a (f + p) 4096 := by
  unfold outA
  rw [List.flatMap_append, List.append_assoc]
  simp
theorem inA_snoc (l : List Ar) (a : Ar) (f p : Int) : inA (l ++ [a]) f p = inA l f p ++ pieceA a f (f + p) := by
  unfold inA
  rw [List.flatMap_append]
  simp
theorem outA_length (l : List Ar) (f p : Int) : (outA l f p).length ≤ 2 * l.length := by
  induction l with
  | nil => exact Nat.zero_le _
  | cons a l ih =>
    have h1 := pieceA_length a 0 f
    have h2 := pieceA_length a (f + p) 4096
    have : outA (a :: l) f p = (pieceA a 0 f ++ pieceA a (f + p) 4096) ++ outA l f p := rfl
    rw [this, List.length_append, List.length_append, List.length_cons]
    omega
theorem inA_length (l : List Ar) (f p : Int) : (inA l f p).length ≤ l.length := by
  induction l with
  | nil => exact Nat.zero_le _
  | cons a l ih =>
    have h1 := pieceA_length a f (f + p)
    have : inA (a :: l) f p = pieceA a f (f + p) ++ inA l f p := rfl
    rw [this, List.length_append, List.length_cons]
    omega
def posA : List Ar → Int → Nat
  | [], _ => 0
  | x :: l, f => if x.fr < f then posA l f + 1 else 0
theorem posA_le (l : List Ar) (f : Int) : posA l f ≤ l.length := by
  induction l with
  | nil => exact Nat.le_refl _
  | cons x l ih =>
    unfold posA
    split
    · simp only [List.length_cons]; omega
    · exact Nat.zero_le _
theorem posA_lt {l : List Ar} {f : Int} {j : Nat} (h : j < posA l f) : ∃ x, l[j]? = some x ∧ x.fr < f := by
  induction l generalizing j with
  | nil => exact absurd h (Nat.not_lt_zero _)
  | cons x l ih =>
    unfold posA at h
    split at h
    · rename_i c
      cases j with
      | zero => exact ⟨x, rfl, c⟩
      | succ j =>
        obtain ⟨y, h1, h2⟩ := ih (show j < posA l f by omega)
        exact ⟨y, h1, h2⟩
    · exact absurd h (Nat.not_lt_zero _)
theorem posA_at {l : List Ar} {f : Int} {x : Ar} (h : l[posA l f]? = some x) : ¬ x.fr < f := by
  induction l with
  | nil => cases h
  | cons y l ih =>
    unfold posA at h
    split at h
    · exact ih h
    · rename_i c
      simp only [List.getElem?_cons_zero, Option.some.injEq] at h
      subst h
      exact c
/-- A list with one more, by From. -/
def insA (l : List Ar) (a : Ar) : List Ar := l.take (posA l a.fr) ++ [a] ++ l.drop (posA l a.fr)
theorem insA_length (l : List Ar) (a : Ar) : (insA l a).length = l.length + 1 := by
  unfold insA
  have := posA_le l a.fr
  simp only [List.length_append, List.length_take, List.length_drop, List.length_singleton]
  omega
def setW (w : Bool) (a : Ar) : Ar := ⟨a.fr, a.pg, w, a.kd, a.fl, a.ofs⟩
/-- What Add answers, and makes. -/
def addE (l : List Ar) (a : Ar) : Int := if soundA a then (if inA l a.fr a.pg ≠ [] then 3 else if 16 ≤ l.length then 4 else 0) else 1
def addL (l : List Ar) (a : Ar) : List Ar := if addE l a = 0 then insA l a else []
def rightA (f p : Int) : Prop := 0 ≤ f ∧ 1 ≤ p ∧ f ≤ 4095 ∧ p ≤ 4096 - f
instance (f p : Int) : Decidable (rightA f p) := by unfold rightA; exact inferInstance
def cutE (l : List Ar) (f p : Int) : Int := if rightA f p then (if 16 < (outA l f p).length then 4 else 0) else 1
def cutL (l : List Ar) (f p : Int) : List Ar := if cutE l f p = 0 then outA l f p else []
def protO (l : List Ar) (f p : Int) (w : Bool) : List Ar := ((inA l f p).map (setW w)).foldl insA (outA l f p)
def protE (l : List Ar) (f p : Int) (w : Bool) : Int := if rightA f p then (if inA l f p = [] then 2 else if 16 < (protO l f p w).length then 4 else 0) else 1
def protL (l : List Ar) (f p : Int) (w : Bool) : List Ar := if protE l f p w = 0 then protO l f p w else []
/-- The area with a page. -/
def findA (l : List Ar) (q : Int) : Option Ar := l.find? (fun a => decide (a.fr ≤ q ∧ q < a.fr + a.pg))
/-- A list of areas in memory. -/
abbrev Ars (w : World) (B : Nat) (v : Value) (l : List Ar) : Prop := Gs arL 6 w B v l
/-- Its cells, one behind the other. -/
def flatA : List Ar → List Value
  | [] => []
  | a :: l => .int .i64 a.fr :: .int .i64 a.pg :: .bool a.w :: .int .i64 a.kd :: .int .i64 a.fl :: .int .i64 a.ofs :: flatA l
theorem flatA_length (l : List Ar) : (flatA l).length = l.length * 6 := by
  induction l with
  | nil => rfl
  | cons a l ih => show (flatA l).length + 1 + 1 + 1 + 1 + 1 + 1 = (l.length + 1) * 6; omega
theorem flatA_append (l m : List Ar) : flatA (l ++ m) = flatA l ++ flatA m := by
  induction l with
  | nil => rfl
  | cons a l ih => show _ :: _ :: _ :: _ :: _ :: _ :: flatA (l ++ m) = _; rw [ih]; rfl
theorem flatA_one (l : List Ar) : ∀ u ∈ flatA l, u.oneCell' = true := by
  induction l with
  | nil => exact fun u h => absurd h List.not_mem_nil
  | cons a l ih =>
    intro u hu
    have hu' : u = .int .i64 a.fr ∨ u = .int .i64 a.pg ∨ u = .bool a.w ∨ u = .int .i64 a.kd ∨ u = .int .i64 a.fl ∨ u = .int .i64 a.ofs ∨ u ∈ flatA l := by
      simpa [flatA] using hu
    rcases hu' with rfl | rfl | rfl | rfl | rfl | rfl | hu
    all_goals first | rfl | exact ih u hu
theorem flatA_at {l : List Ar} {j : Nat} {a : Ar} (h : l[j]? = some a) : ∀ i u, (arL a)[i]? = some u → (flatA l)[j * 6 + i]? = some u := by
  induction l generalizing j with
  | nil => cases h
  | cons b l ih =>
    intro i u hu
    cases j with
    | zero =>
      simp only [List.getElem?_cons_zero, Option.some.injEq] at h
      subst h
      have hi : i < 6 := (List.getElem?_eq_some_iff.1 hu).1
      match i, hi with
      | 0, _ | 1, _ | 2, _ | 3, _ | 4, _ | 5, _ => exact hu
      | n + 6, h => omega
    | succ j =>
      have := ih (by simpa using h) i u hu
      rw [show (j + 1) * 6 + i = j * 6 + i + 1 + 1 + 1 + 1 + 1 + 1 by omega]
      exact this
end Go.Proofs.Ytpkgmmfnlifocaa
