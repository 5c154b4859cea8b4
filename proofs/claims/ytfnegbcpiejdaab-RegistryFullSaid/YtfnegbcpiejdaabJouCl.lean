/-
  A journal whose failed Rebases all were to the same base: behind a crash that tears no sector the base that is found is the one that is sure, or that one, whole. Nothing of the program is named here but what Append and Rebase make of a disk.
  Conditions: none beside those that each line bears.
-/
import Derived.Test.YtfnegbcpiejdaabJous
namespace Go.Proofs.Ytfnegbcpiejdaab
open Go.RowKit
set_option linter.unusedVariables false

/-- Where a head of the next gen may stand, all its bytes stand. -/
def JCl (g : Nat) (bs : List (List Nat)) (S : Nat → List Nat) (L : Nat → Option (List Nat)) : Prop :=
  ∀ b ∈ bs, Val S L (64 + 16 * ((g + 1) % 2)) (hedL (g + 1) b) → ∀ j, j < nsec b → ∀ y, Val S L (65 + 16 * ((g + 1) % 2) + j) y → y = chk b j
theorem zer_le : le (win zer 0 4) = 0 := by
  have h := zer_gen (F := fun _ => zer) (w := 0) rfl
  exact h
section
variable {g : Nat} {nb : List Nat} {rs xs bs : List (List Nat)} {S S' : Nat → List Nat} {L L' : Nat → Option (List Nat)} {t t' : Tr} {b : List Nat} {z : Nat}
theorem JCl.nil_ : JCl g [] S L := fun b hb => by cases hb
theorem JCl.less (h : JCl g bs S L) (hv : ∀ f y, 64 ≤ f → Val S' L' f y → Val S L f y) : JCl g bs S' L' :=
  fun b hb hh j hj y hy => h b hb (hv _ _ (by omega) hh) j hj y (hv _ _ (by omega) hy)
theorem JCl.app (h : JCl g bs S L) {n n' : Nat} {br : Bool} (hn : n ≤ 64) (hc : AppCase S L t g n br b z S' L' t' n') : JCl g bs S' L' := by
  rcases hc with ⟨_, _, rfl, rfl, _⟩ | ⟨_, _, _, rfl, rfl, _⟩ | ⟨_, _, h3, ⟨_, _, rfl, rfl, _⟩ | ⟨_, _, _, rfl, rfl, _⟩ | ⟨_, _, _, rfl, rfl, _⟩⟩
  · exact h
  · exact h
  · exact h
  · refine h.less fun f y hf hy => ?_
    unfold Val at hy ⊢
    rw [upd_other _ _ _ (by omega)] at hy
    exact hy
  · refine h.less fun f y hf hy => ?_
    rw [hy.sure, upd_other _ _ _ (by omega)]
    exact Val.last_ S L f
/-- A failed Rebase, to the base to which all others were. -/
theorem JCl.bad (h : JCl g bs S L) (hi : JInv g nb rs xs bs S L) (hall : ∀ b' ∈ bs, b' = b) (hb : b.length ≤ 960) (hg : g + 1 < 4294967296) (hs : SavBad S L t (g + 1) b z S' L' t') : JCl g (b :: bs) S' L' := by
  have hone : ∀ b' ∈ b :: bs, b' = b := by
    intro b' hm
    rcases List.mem_cons.1 hm with rfl | hm
    · rfl
    · exact hall b' hm
  intro b' hb' hh j hj y hy
  obtain rfl := hone b' hb'
  have hns := nsec_le hb
  rcases hs with ⟨k, h1, _, _, _, rfl, rfl, _⟩ | ⟨_, ⟨_, _, rfl, rfl, _⟩ | ⟨_, _, _, rfl, rfl, _⟩⟩
  · have hv : Val S' L (64 + 16 * ((g + 1) % 2)) (hedL (g + 1) b') := by
      unfold Val looL at hh
      rw [if_neg (by omega)] at hh
      exact hh
    have hin : b' ∈ bs := by
      rcases hi.other _ hv with (h2 | h2) | ⟨b2, h2, h3⟩
      · have e := hedL_gen (b := b') hg
        rw [h2, zer_le] at e
        omega
      · rw [hedL_gen hg] at h2
        omega
      · rw [← hall b2 h2]; exact h2
    unfold Val looL at hy
    rcases hy with hy | hy
    · exact h b' hin hv j hj y (.inl hy)
    · split at hy
      · injection hy with hy
        rw [← hy]
        congr 1
        omega
      · exact h b' hin hv j hj y (.inr hy)
  · rw [hy.sure]
    exact datL_at hj
  · unfold Val at hy
    rw [upd_other _ _ _ (by omega)] at hy
    rcases hy with hy | hy
    · rw [hy]; exact datL_at hj
    · cases hy
theorem load_whole {F : Nat → List Nat} {g : Nat} {B : List Nat} (h : loadR F = (g, B)) (hg : 0 < g) : Whole F (g % 2) ∧ sloG F (g % 2) = g ∧ sloB F (g % 2) = B := by
  have key : ∀ x, x ≤ 2 → loadN F x = (g, B) → Whole F (g % 2) ∧ sloG F (g % 2) = g ∧ sloB F (g % 2) = B := by
    intro x
    induction x with
    | zero => intro _ h; simp only [loadN, Prod.mk.injEq] at h; omega
    | succ x ih =>
      intro hx h
      unfold loadN at h
      split at h
      · rename_i hc
        injection h with h1 h2
        have e : g % 2 = x := by rw [← h1]; exact hc.1.2.1
        rw [e]
        exact ⟨hc.1, h1, h2⟩
      · exact ih (by omega) h
  exact key 2 (Nat.le_refl _) h
/-- The gen and the base that are loaded. -/
theorem JInv.load2 (h : JInv g nb rs xs bs S L) (hcl : JCl g bs S L) (hg : g + 1 < 4294967296) {F : Nat → List Nat} (hF : ∀ f, f < 192 → Val S L f (F f)) (h64 : ∀ f, f < 192 → (F f).length = 64) :
    loadR F = (g, nb) ∨ ∃ b ∈ bs, loadR F = (g + 1, b) := by
  rcases h.load hg hF h64 with h1 | ⟨_, _, B, h2, _, _⟩
  · exact .inl h1
  · right
    obtain ⟨k1, k2, k3⟩ := load_whole h2 (by omega)
    have hw := k1.2.2
    rw [k2] at hw
    have hv := hF (64 + 16 * ((g + 1) % 2)) (by omega)
    rcases h.other _ hv with (h5 | h5) | ⟨b, h5, h6⟩
    · have e : sloG F ((g + 1) % 2) = le (win (F (64 + 16 * ((g + 1) % 2))) 0 4) := rfl
      rw [h5, zer_le, k2] at e
      omega
    · have e : sloG F ((g + 1) % 2) = le (win (F (64 + 16 * ((g + 1) % 2))) 0 4) := rfl
      omega
    · have hbl := h.bshort b h5
      have hns := nsec_le hbl
      have hd : ∀ j, j < nsec b → F (65 + 16 * ((g + 1) % 2) + j) = chk b j := fun j hj =>
        hcl b h5 (by rw [← h6]; exact hv) j hj _ (hF _ (by omega))
      obtain ⟨_, _, e3⟩ := whole_of (F := F) (w := (g + 1) % 2) (b := b) hg rfl hbl h6 (flat_take F (65 + 16 * ((g + 1) % 2)) b (nsec b) 15 hd hns (by unfold nsec; omega))
      refine ⟨b, h5, ?_⟩
      rw [h2, ← k3, e3]
end
end Go.Proofs.Ytfnegbcpiejdaab
