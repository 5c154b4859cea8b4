/-
  What a journal's Append and Rebase make of what a disk has, with any trouble; and what becomes of the journal's own invariant. Of the program only slot's and log's contracts are named here.
  Conditions: none beside those that each line bears.
-/
import Derived.Test.YtckabekimdcdcaaJouInv
import Derived.Test.YtckabekimdcdcaaSlotG
import Derived.Test.YtckabekimdcdcaaLogC
namespace Go.Proofs.Ytckabekimdcdcaa
open Go.RowKit
set_option linter.unusedVariables false

/-- A Save that failed: what it answered, and what is there then. -/
def SavBad (S : Nat → List Nat) (L : Nat → Option (List Nat)) (t : Tr) (g : Nat) (b : List Nat) (z : Nat) (S' : Nat → List Nat) (L' : Nat → Option (List Nat)) (t' : Tr) : Prop :=
  (∃ k, k ≤ nsec b ∧ (∀ j, j < k → (tn t j).ans = 0) ∧ (tn t k).ans ≠ 0 ∧ z = (tn t k).ans ∧ S' = S ∧ L' = looL L g b k ∧ t' = tn t (k + 1)) ∨
  ((∀ j, j < nsec b + 1 → (tn t j).ans = 0) ∧
    (((tn t (nsec b + 1)).ans ≠ 0 ∧ z = (tn t (nsec b + 1)).ans ∧ S' = datL (last S L) g b (nsec b) ∧ L' = (fun _ => none) ∧ t' = tn t (nsec b + 2)) ∨
     ((tn t (nsec b + 1)).ans = 0 ∧ (tn t (nsec b + 2)).ans ≠ 0 ∧ z = (tn t (nsec b + 2)).ans ∧ S' = datL (last S L) g b (nsec b) ∧ L' = upd (fun _ => none) (64 + 16 * (g % 2)) (some (hedL g b)) ∧ t' = tn t (nsec b + 3))))
/-- A Save that was done. -/
def SavGood (S : Nat → List Nat) (L : Nat → Option (List Nat)) (t : Tr) (g : Nat) (b : List Nat) (S' : Nat → List Nat) (L' : Nat → Option (List Nat)) (t' : Tr) : Prop :=
  (∀ j, j < nsec b + 3 → (tn t j).ans = 0) ∧ S' = savL (last S L) g b ∧ L' = (fun _ => none) ∧ t' = tn t (nsec b + 3)
theorem savePost_cases {w w' : World} {gD gS gM n : Nat} {S : Nat → List Nat} {L : Nat → Option (List Nat)} {t : Tr} {g : Nat} {b : List Nat} {e : Ending} (h : SavePost w gD gS gM n S L t g b e w') :
    Turns (dk gD gS gM) w w' ∧ ∃ (z : Nat) (S' : Nat → List Nat) (L' : Nat → Option (List Nat)) (t' : Tr), e = .returned (.int .i64 (z : Int)) ∧ Dsk w' gD gS gM n S' L' t' ∧ ((z ≠ 0 ∧ SavBad S L t g b z S' L' t') ∨ (z = 0 ∧ SavGood S L t g b S' L' t')) := by
  obtain ⟨ht, ⟨k, h1, h2, h3, h4, h5⟩ | ⟨h1, ⟨h3, h4, h5⟩ | ⟨h2, h3, h4, h5⟩ | ⟨h2, h3, h4, h5⟩⟩⟩ := h
  · exact ⟨ht, _, _, _, _, h4, h5, .inl ⟨h3, .inl ⟨k, h1, h2, h3, rfl, rfl, rfl, rfl⟩⟩⟩
  · exact ⟨ht, _, _, _, _, h4, h5, .inl ⟨h3, .inr ⟨h1, .inl ⟨h3, rfl, rfl, rfl, rfl⟩⟩⟩⟩
  · exact ⟨ht, _, _, _, _, h4, h5, .inl ⟨h3, .inr ⟨h1, .inr ⟨h2, h3, rfl, rfl, rfl, rfl⟩⟩⟩⟩
  · refine ⟨ht, 0, _, _, _, h4, h5, .inr ⟨rfl, fun j hj => ?_, rfl, rfl, rfl⟩⟩
    by_cases c1 : j < nsec b + 1
    · exact h1 j c1
    · by_cases c2 : j = nsec b + 1
      · rw [c2]; exact h2
      · rw [show j = nsec b + 2 by omega]; exact h3
theorem ans_cases (t : Tr) : t.ans = 0 ∨ t.ans = 6 ∨ t.ans = 9 := by
  unfold Tr.ans
  split
  · exact .inr (.inr rfl)
  · split
    · exact .inl rfl
    · split
      · exact .inr (.inl rfl)
      · exact .inl rfl

/-- What an Append makes: z is what it answers, n how many records there are then. -/
def AppCase (S : Nat → List Nat) (L : Nat → Option (List Nat)) (t : Tr) (g n : Nat) (br : Bool) (b : List Nat) (z : Nat) (S' : Nat → List Nat) (L' : Nat → Option (List Nat)) (t' : Tr) (n' : Nat) : Prop :=
  (50 < b.length ∧ z = 1 ∧ S' = S ∧ L' = L ∧ t' = t ∧ n' = n) ∨
  (b.length ≤ 50 ∧ (br = true ∨ 64 ≤ n) ∧ z = 4 ∧ S' = S ∧ L' = L ∧ t' = t ∧ n' = n) ∨
  (b.length ≤ 50 ∧ br = false ∧ n < 64 ∧
    ((t.ans ≠ 0 ∧ z = t.ans ∧ S' = S ∧ L' = L ∧ t' = t.next ∧ n' = n) ∨
     (t.ans = 0 ∧ t.next.ans ≠ 0 ∧ z = t.next.ans ∧ S' = S ∧ L' = upd L n (some (secL g n b)) ∧ t' = t.next.next ∧ n' = n) ∨
     (t.ans = 0 ∧ t.next.ans = 0 ∧ z = 0 ∧ S' = upd (last S L) n (secL g n b) ∧ L' = (fun _ => none) ∧ t' = t.next.next ∧ n' = n + 1)))
/-- What a Rebase makes. -/
def RebCase (S : Nat → List Nat) (L : Nat → Option (List Nat)) (t : Tr) (g n : Nat) (br : Bool) (b : List Nat) (z : Nat) (S' : Nat → List Nat) (L' : Nat → Option (List Nat)) (t' : Tr) (g' n' : Nat) (br' : Bool) : Prop :=
  (960 < b.length ∧ z = 1 ∧ S' = S ∧ L' = L ∧ t' = t ∧ g' = g ∧ n' = n ∧ br' = br) ∨
  (b.length ≤ 960 ∧ z ≠ 0 ∧ g' = g ∧ n' = n ∧ br' = true ∧ SavBad S L t (g + 1) b z S' L' t') ∨
  (b.length ≤ 960 ∧ z = 0 ∧ g' = g + 1 ∧ n' = 0 ∧ br' = false ∧ SavGood S L t (g + 1) b S' L' t')

section
variable {g : Nat} {nb : List Nat} {rs xs bs : List (List Nat)} {S S' : Nat → List Nat} {L L' : Nat → Option (List Nat)} {t t' : Tr} {b : List Nat} {z : Nat}
theorem SavBad.ans (h : SavBad S L t g b z S' L' t') : z = 6 ∨ z = 9 := by
  rcases h with ⟨k, _, _, h1, h2, _⟩ | ⟨_, ⟨h1, h2, _⟩ | ⟨_, h1, h2, _⟩⟩
  · have := ans_cases (tn t k); omega
  · have := ans_cases (tn t (nsec b + 1)); omega
  · have := ans_cases (tn t (nsec b + 2)); omega
theorem JInv.bad (h : JInv g nb rs xs bs S L) (hb : b.length ≤ 960) (hs : SavBad S L t (g + 1) b z S' L' t') : JInv g nb rs xs (b :: bs) S' L' := by
  rcases hs with ⟨k, h1, _, _, _, rfl, rfl, _⟩ | ⟨_, ⟨_, _, rfl, rfl, _⟩ | ⟨_, _, _, rfl, rfl, _⟩⟩
  · exact h.rebasing hb h1
  · exact h.rebased hb
  · exact (h.rebased hb).headed
theorem JInv.good (h : JInv g nb rs xs bs S L) (hb : b.length ≤ 960) (hg : g + 1 < 4294967296) (hs : SavGood S L t (g + 1) b S' L' t') : JInv (g + 1) b [] [] [] S' L' := by
  obtain ⟨_, rfl, rfl, _⟩ := hs
  exact h.rebase_ hb hg
/-- What becomes of the invariant behind an Append: done; refused; failed. -/
theorem JInv.app (h : JInv g nb rs xs bs S L) {br : Bool} {n' : Nat} (hbr : br = false → bs = []) (hg : g < 4294967296) (hc : AppCase S L t g rs.length br b z S' L' t' n') :
    (z = 0 ∧ b.length ≤ 50 ∧ rs.length < 64 ∧ br = false ∧ n' = (rs ++ [b]).length ∧ JInv g nb (rs ++ [b]) [] [] S' L') ∨
    (((z = 1 ∧ 50 < b.length) ∨ (z = 4 ∧ b.length ≤ 50 ∧ (br = true ∨ 64 ≤ rs.length))) ∧ n' = rs.length ∧ S' = S ∧ L' = L ∧ t' = t) ∨
    ((z = 6 ∨ z = 9) ∧ b.length ≤ 50 ∧ rs.length < 64 ∧ br = false ∧ n' = rs.length ∧ JInv g nb rs (b :: xs) bs S' L') := by
  rcases hc with ⟨h1, h2, h3, h4, h5, h6⟩ | ⟨h1, h2, h3, h4, h5, h6, h7⟩ | ⟨h1, h2, h3, ⟨h4, h5, rfl, rfl, h6, h7⟩ | ⟨h4, h4', h5, rfl, rfl, h6, h7⟩ | ⟨h4, h4', h5, rfl, rfl, h6, h7⟩⟩
  · exact .inr (.inl ⟨.inl ⟨h2, h1⟩, h6, h3, h4, h5⟩)
  · exact .inr (.inl ⟨.inr ⟨h3, h1, h2⟩, h7, h4, h5, h6⟩)
  · refine .inr (.inr ⟨by have := ans_cases t; omega, h1, h3, h2, h7, ?_⟩)
    exact h.more (fun x hx => List.mem_cons_of_mem _ hx) (fun b hb => hb) (fun x hx => by
      rcases List.mem_cons.1 hx with rfl | hx
      · exact h1
      · exact h.xshort x hx) h.bshort
  · exact .inr (.inr ⟨by have := ans_cases t.next; omega, h1, h3, h2, h7, h.appended h1 h3 hg⟩)
  · refine .inl ⟨h5, h1, h3, h2, by simp [h7], ?_⟩
    have e := hbr h2
    subst e
    exact h.append_ h1 h3 hg
end
end Go.Proofs.Ytckabekimdcdcaa
