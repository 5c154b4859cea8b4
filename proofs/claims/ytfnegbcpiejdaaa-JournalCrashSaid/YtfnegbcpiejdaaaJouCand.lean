/-
  The states that a crash may leave, as JournalCrash keeps them: how they grow, and that what is found is one of them, or has the sum of one.
  Conditions: none beside those that each line bears.
-/
import Derived.Test.YtfnegbcpiejdaaaJouSt
import Derived.Test.YtfnegbcpiejdaaaDcr
namespace Go.Proofs.Ytfnegbcpiejdaaa
open Go.RowKit
set_option linter.unusedVariables false

/-- The state that is sure, and one more for each call that failed. -/
def Cands (nb : List Nat) (rs xs bs : List (List Nat)) (sts : List StD) : Prop :=
  sts.getD 0 ([], []) = (nb, rs) ∧ 0 < sts.length ∧ (∀ x ∈ xs, ((nb, rs ++ [x]) : StD) ∈ sts) ∧ ∀ b ∈ bs, ((b, []) : StD) ∈ sts
theorem Cands.fresh (nb : List Nat) (rs : List (List Nat)) : Cands nb rs [] [] [(nb, rs)] := ⟨rfl, by simp, (fun x hx => by cases hx), fun x hx => by cases hx⟩
theorem Cands.app {nb : List Nat} {rs xs bs : List (List Nat)} {sts : List StD} (h : Cands nb rs xs bs sts) (x : List Nat) : Cands nb rs (x :: xs) bs (sts ++ [(nb, rs ++ [x])]) := by
  refine ⟨?_, by simp, fun y hy => ?_, fun b hb => List.mem_append_left _ (h.2.2.2 b hb)⟩
  · rw [List.getD_eq_getElem?_getD, List.getElem?_append_left h.2.1, ← List.getD_eq_getElem?_getD]
    exact h.1
  · rcases List.mem_cons.1 hy with rfl | hy
    · exact List.mem_append_right _ (List.mem_singleton.2 rfl)
    · exact List.mem_append_left _ (h.2.2.1 y hy)
theorem Cands.reb {nb : List Nat} {rs xs bs : List (List Nat)} {sts : List StD} (h : Cands nb rs xs bs sts) (b : List Nat) : Cands nb rs xs (b :: bs) (sts ++ [(b, [])]) := by
  refine ⟨?_, by simp, fun y hy => List.mem_append_left _ (h.2.2.1 y hy), fun y hy => ?_⟩
  · rw [List.getD_eq_getElem?_getD, List.getElem?_append_left h.2.1, ← List.getD_eq_getElem?_getD]
    exact h.1
  · rcases List.mem_cons.1 hy with rfl | hy
    · exact List.mem_append_right _ (List.mem_singleton.2 rfl)
    · exact List.mem_append_left _ (h.2.2.2 y hy)
theorem oneB_mem {b : List Nat} {l : List (List Nat)} {sts : List StD} (h : ((b, l) : StD) ∈ sts) : oneB b l sts = true := decide_eq_true ⟨_, h, rfl, rfl⟩
/-- What is found. -/
theorem Cands.found {g : Nat} {nb : List Nat} {rs xs bs : List (List Nat)} {S F : Nat → List Nat} {L : Nat → Option (List Nat)} {sts : List StD} (hc : Cands nb rs xs bs sts) (h : JInv g nb rs xs bs S L) (hg : g + 1 < 4294967296) (hF : ∀ f, f < 192 → Val S L f (F f)) (h64 : ∀ f, f < 192 → (F f).length = 64)
    {m : Nat} (hm : Stop F (loadR F).1 m) : oneB (loadR F).2 (pays F m) sts = true ∨ clsB (loadR F).1 (loadR F).2 sts = true := by
  rcases h.load hg hF h64 with h1 | ⟨b, h1, B, h2, h3, h4⟩
  · rw [h1] at hm ⊢
    rcases h.recs (by omega) hF hm with h5 | ⟨x, h5, h6⟩
    · left
      refine oneB_mem ?_
      rw [h5]
      have := mem_getD hc.2.1
      rw [hc.1] at this
      exact this
    · left
      refine oneB_mem ?_
      rw [h6]
      exact hc.2.2.1 x h5
  · rw [h2] at hm ⊢
    have h5 := h.recs_next hg hF hm
    by_cases e : B = b
    · left
      refine oneB_mem ?_
      rw [h5, e]
      exact hc.2.2.2 b h1
    · right
      exact decide_eq_true ⟨_, hc.2.2.2 b h1, h3, e, h4⟩
end Go.Proofs.Ytfnegbcpiejdaaa
