/-
  What a crash leaves of two slots of which one was being saved, if no sector is torn: what was saved last, or what was being saved.
  Conditions: none beside those that each line bears.
-/
import Derived.Test.YtckabekimdcdcaaSlo
import Derived.Test.YtckabekimdcdcaaGenK
namespace Go.Proofs.Ytckabekimdcdcaa
open Go.RowKit
set_option linter.unusedVariables false

theorem over_none_ (xs : List Nat) : over xs 0 [] = xs := by simp [over]
/-- Behind a crash that tears no sector each one is as it was sure, or as it was written. -/
theorem crash_or {S : Nat → List Nat} {L : Nat → Option (List Nat)} {n K tn : Nat} (hS : ∀ f, f < n → (S f).length = 64) (hL : ∀ f y, L f = some y → y.length = 64) (ht : tn = 0 ∨ tn = 64) (f : Nat) :
    crashL S L (keptL (keysL n L) K) tn f = S f ∨ ∃ y, L f = some y ∧ crashL S L (keptL (keysL n L) K) tn f = y := by
  have hmem : ∀ j ∈ keptL (keysL n L) K, j < n ∧ (L j).isSome = true := fun j hj => keysL_mem (keptN_mem _ _ _ (Nat.le_refl _) j hj)
  obtain ⟨ks, hks⟩ : ∃ ks, ks = keptL (keysL n L) K := ⟨_, rfl⟩
  rw [← hks] at hmem ⊢
  have h : ∀ m, m ≤ ks.length → ∀ f, crashN S L ks tn m f = S f ∨ ∃ y, L f = some y ∧ crashN S L ks tn m f = y := by
    intro m
    induction m with
    | zero => intro _ f; exact .inl rfl
    | succ m ih =>
      intro hm f
      have ih := ih (by omega)
      show upd (crashN S L ks tn m) (ks.getD m 0) (over (crashN S L ks tn m (ks.getD m 0)) 0 (((L (ks.getD m 0)).getD zer).take (if m + 1 = ks.length then tn else 64))) f = S f ∨
        ∃ y, L f = some y ∧ upd (crashN S L ks tn m) (ks.getD m 0) (over (crashN S L ks tn m (ks.getD m 0)) 0 (((L (ks.getD m 0)).getD zer).take (if m + 1 = ks.length then tn else 64))) f = y
      by_cases e : f = ks.getD m 0
      · subst e
        rw [upd_same]
        have hk : ks.getD m 0 ∈ ks := by
          rw [List.getD_eq_getElem?_getD, List.getElem?_eq_getElem (show m < ks.length by omega)]
          exact List.getElem_mem _
        obtain ⟨hk1, hk2⟩ := hmem _ hk
        obtain ⟨y, hy⟩ := Option.isSome_iff_exists.1 hk2
        have hy64 := hL _ y hy
        have hc : (crashN S L ks tn m (ks.getD m 0)).length = 64 := by
          rcases ih (ks.getD m 0) with h | ⟨z, h1, h2⟩
          · rw [h]; exact hS _ hk1
          · rw [h2]; exact hL _ z h1
        have hT : (if m + 1 = ks.length then tn else 64) = 0 ∨ (if m + 1 = ks.length then tn else 64) = 64 := by
          split
          · exact ht
          · exact .inr rfl
        rcases hT with hT | hT
        · rw [hT, List.take_zero, over_none_]
          exact ih _
        · rw [hT, hy]
          refine .inr ⟨y, rfl, ?_⟩
          show over _ 0 (y.take 64) = y
          rw [List.take_of_length_le (by omega), over_all _ _ (by omega)]
      · rw [upd_other _ _ _ e]
        exact ih f
  exact h ks.length (Nat.le_refl _) f

/-- What the slots say: the gen and the bytes that were saved last. -/
def SInv (S : Nat → List Nat) (g : Nat) (now : List Nat) : Prop :=
  (g = 0 ∧ now = [] ∧ S 64 = zer ∧ S 80 = zer) ∨
  (0 < g ∧ g < 4294967295 ∧ now.length ≤ 960 ∧ S (64 + 16 * (g % 2)) = hedL g now ∧ (sloA S (g % 2)).take now.length = now ∧ sloG S (1 - g % 2) < g)
theorem SInv.start : SInv (fun _ => zer) 0 [] := .inl ⟨rfl, rfl, rfl, rfl⟩
theorem sloA_congr {F F' : Nat → List Nat} {w : Nat} (h : ∀ f, 65 + 16 * w ≤ f → f < 80 + 16 * w → F f = F' f) : sloA F w = sloA F' w := by
  unfold sloA
  congr 1
  refine List.map_congr_left fun j hj => ?_
  have := List.mem_range.1 hj
  exact h _ (by omega) (by omega)
/-- The slot of g is as it was, and the other one's head, too. -/
theorem SInv.load {S F : Nat → List Nat} {g : Nat} {now : List Nat} (h : SInv S g now) (h1 : ∀ f, 64 + 16 * (g % 2) ≤ f → f < 80 + 16 * (g % 2) → F f = S f) (h2 : F (64 + 16 * (1 - g % 2)) = S (64 + 16 * (1 - g % 2))) : loadR F = (g, now) := by
  rcases h with ⟨rfl, rfl, z0, z1⟩ | ⟨hg, hg2, hn, hh, ha, ho⟩
  · refine load_none (zer_slot ?_) (zer_slot ?_)
    · exact (h1 64 (by omega) (by omega)).trans z0
    · exact h2.trans z1
  · refine load_of (whole_of (by omega) rfl hn ((h1 _ (by omega) (by omega)).trans hh) ?_) (fun _ => ?_)
    · rw [sloA_congr (F' := S) (fun f a1 a2 => h1 f (by omega) (by omega))]
      exact ha
    · unfold sloG at ho ⊢
      rw [h2]
      exact ho
/-- The next gen's slot is whole, and the other one is as it was. -/
theorem SInv.next {S F : Nat → List Nat} {g : Nat} {now x : List Nat} (h : SInv S g now) (hx : x.length ≤ 960) (hg : g + 1 < 4294967295) (h1 : F (64 + 16 * ((g + 1) % 2)) = hedL (g + 1) x) (h2 : (sloA F ((g + 1) % 2)).take x.length = x)
    (h3 : F (64 + 16 * (g % 2)) = S (64 + 16 * (g % 2))) : SInv F (g + 1) x := by
  refine .inr ⟨by omega, hg, hx, h1, h2, ?_⟩
  have e : 1 - (g + 1) % 2 = g % 2 := by omega
  rw [e]
  unfold sloG
  rw [h3]
  rcases h with ⟨rfl, _, z0, _⟩ | ⟨_, hg2, _, hh, _⟩
  · rw [show (64 + 16 * (0 % 2)) = 64 from rfl, z0]
    decide
  · rw [hh, hedL_gen (by omega)]
    omega
theorem SInv.self {S : Nat → List Nat} {g : Nat} {now : List Nat} (h : SInv S g now) : loadR S = (g, now) := h.load (fun _ _ _ => rfl) rfl
theorem SInv.saved {S : Nat → List Nat} {g : Nat} {now x : List Nat} (h : SInv S g now) (hx : x.length ≤ 960) (hg : g + 1 < 4294967295) : SInv (savL S (g + 1) x) (g + 1) x := by
  refine h.next hx hg (upd_same _ _ _) ?_ (sav_other hx (by omega))
  refine flat_take _ _ x (nsec x) 15 (fun j hj => ?_) (nsec_le hx) (by unfold nsec; omega)
  unfold savL
  rw [upd_other _ _ _ (by omega)]
  exact datL_at hj
/-- What is loose of a saving's bytes when k sectors are written. -/
def looL (L : Nat → Option (List Nat)) (g : Nat) (b : List Nat) (k : Nat) : Nat → Option (List Nat) := fun f => if 65 + 16 * (g % 2) ≤ f ∧ f < 65 + 16 * (g % 2) + k then some (chk b (f - (65 + 16 * (g % 2)))) else L f
theorem looL_zero (L : Nat → Option (List Nat)) (g : Nat) (b : List Nat) : looL L g b 0 = L := by
  funext f
  unfold looL
  rw [if_neg (by omega)]
theorem looL_step (L : Nat → Option (List Nat)) (g : Nat) (b : List Nat) (k : Nat) : upd (looL L g b k) (65 + 16 * (g % 2) + k) (some (chk b k)) = looL L g b (k + 1) := by
  funext f
  unfold upd looL
  by_cases e : f = 65 + 16 * (g % 2) + k
  · subst e
    rw [if_pos rfl, if_pos ⟨by omega, by omega⟩]
    congr 2
    omega
  · rw [if_neg e]
    by_cases c : 65 + 16 * (g % 2) ≤ f ∧ f < 65 + 16 * (g % 2) + k
    · rw [if_pos c, if_pos ⟨c.1, by omega⟩]
    · rw [if_neg c, if_neg (by omega)]
theorem looL_last (S : Nat → List Nat) (L : Nat → Option (List Nat)) (g : Nat) (b : List Nat) (k : Nat) : last S (looL L g b k) = datL (last S L) g b k := by
  funext f
  unfold last looL datL
  by_cases c : 65 + 16 * (g % 2) ≤ f ∧ f < 65 + 16 * (g % 2) + k
  · rw [if_pos c, if_pos c]; rfl
  · rw [if_neg c, if_neg c]
theorem looL_long {L : Nat → Option (List Nat)} {g k : Nat} {b : List Nat} (hL : ∀ f y, L f = some y → y.length = 64) : ∀ f y, looL L g b k f = some y → y.length = 64 := by
  intro f y h
  unfold looL at h
  split at h
  · injection h with h
    rw [← h]
    exact chk_length _ _
  · exact hL f y h
/-- The power went, or the disk failed, while the bytes were written: what was saved last is there. -/
theorem cut_bytes {S : Nat → List Nat} {g : Nat} {now x : List Nat} (h : SInv S g now) (hx : x.length ≤ 960) {k K tn : Nat} (hk : k ≤ nsec x) (hS : ∀ f, f < 192 → (S f).length = 64) (ht : tn = 0 ∨ tn = 64) :
    loadR (crashL S (looL (fun _ => none) (g + 1) x k) (keptL (keysL 192 (looL (fun _ => none) (g + 1) x k)) K) tn) = (g, now) := by
  have hn := nsec_le hx
  have hc := fun f => crash_or (K := K) (n := 192) hS (looL_long (L := fun _ => none) (g := g + 1) (k := k) (b := x) (fun f y h => by cases h)) ht f
  have hno : ∀ f, (f < 65 + 16 * ((g + 1) % 2) ∨ 65 + 16 * ((g + 1) % 2) + k ≤ f) → looL (fun _ => none) (g + 1) x k f = none := by
    intro f hf
    unfold looL
    rw [if_neg (by omega)]
  refine h.load (fun f a1 a2 => ?_) ?_
  · rcases hc f with hc | ⟨y, hy, _⟩
    · exact hc
    · rw [hno f (by omega)] at hy
      cases hy
  · rcases hc (64 + 16 * (1 - g % 2)) with hc | ⟨y, hy, _⟩
    · exact hc
    · rw [hno _ (by omega)] at hy
      cases hy
/-- .. behind the bytes, ahead of the head. -/
theorem cut_head {S : Nat → List Nat} {g : Nat} {now x : List Nat} (h : SInv S g now) (hx : x.length ≤ 960) {K tn : Nat} (hS : ∀ f, f < 192 → (S f).length = 64) (ht : tn = 0 ∨ tn = 64) :
    loadR (crashL (datL S (g + 1) x (nsec x)) (fun _ => none) (keptL (keysL 192 (fun _ => none)) K) tn) = (g, now) := by
  have hn := nsec_le hx
  have hl : ∀ f, f < 192 → (datL S (g + 1) x (nsec x) f).length = 64 := by
    intro f hf
    unfold datL
    split
    · exact chk_length _ _
    · exact hS f hf
  have hc := fun f => crash_or (K := K) (n := 192) (L := fun _ => none) hl (fun f y h => by cases h) ht f
  have hc' : ∀ f, crashL (datL S (g + 1) x (nsec x)) (fun _ => none) (keptL (keysL 192 (fun _ => none)) K) tn f = datL S (g + 1) x (nsec x) f := by
    intro f
    rcases hc f with hc | ⟨y, hy, _⟩
    · exact hc
    · cases hy
  refine h.load (fun f a1 a2 => ?_) ?_
  · rw [hc' f, datL_other (by omega)]
  · rw [hc', datL_other (by omega)]
/-- .. while the head is loose: what was saved last, or what was being saved. -/
theorem cut_last {S : Nat → List Nat} {g : Nat} {now x : List Nat} (h : SInv S g now) (hx : x.length ≤ 960) (hg : g + 1 < 4294967295) {K tn : Nat} (hS : ∀ f, f < 192 → (S f).length = 64) (ht : tn = 0 ∨ tn = 64) :
    loadR (crashL (datL S (g + 1) x (nsec x)) (upd (fun _ => none) (64 + 16 * ((g + 1) % 2)) (some (hedL (g + 1) x))) (keptL (keysL 192 (upd (fun _ => none) (64 + 16 * ((g + 1) % 2)) (some (hedL (g + 1) x)))) K) tn) = (g, now) ∨
    loadR (crashL (datL S (g + 1) x (nsec x)) (upd (fun _ => none) (64 + 16 * ((g + 1) % 2)) (some (hedL (g + 1) x))) (keptL (keysL 192 (upd (fun _ => none) (64 + 16 * ((g + 1) % 2)) (some (hedL (g + 1) x)))) K) tn) = (g + 1, x) := by
  have hn := nsec_le hx
  have hl : ∀ f, f < 192 → (datL S (g + 1) x (nsec x) f).length = 64 := by
    intro f hf
    unfold datL
    split
    · exact chk_length _ _
    · exact hS f hf
  have hL : ∀ f y, (upd (fun _ => none) (64 + 16 * ((g + 1) % 2)) (some (hedL (g + 1) x)) : Nat → Option (List Nat)) f = some y → y.length = 64 := by
    intro f y hy
    unfold upd at hy
    split at hy
    · injection hy with hy
      rw [← hy]
      exact hedL_length _ _
    · cases hy
  have hc := fun f => crash_or (K := K) (n := 192) hl hL ht f
  generalize crashL (datL S (g + 1) x (nsec x)) (upd (fun _ => none) (64 + 16 * ((g + 1) % 2)) (some (hedL (g + 1) x))) (keptL (keysL 192 (upd (fun _ => none) (64 + 16 * ((g + 1) % 2)) (some (hedL (g + 1) x)))) K) tn = F at hc ⊢
  have hoth : ∀ f, f ≠ 64 + 16 * ((g + 1) % 2) → F f = datL S (g + 1) x (nsec x) f := by
    intro f hf
    rcases hc f with hc | ⟨y, hy, _⟩
    · exact hc
    · rw [upd_other _ _ _ hf] at hy
      cases hy
  have hown : ∀ f, 64 + 16 * (g % 2) ≤ f → f < 80 + 16 * (g % 2) → F f = S f := by
    intro f a1 a2
    rw [hoth f (by omega), datL_other (by omega)]
  rcases hc (64 + 16 * ((g + 1) % 2)) with hh | ⟨y, hy, hh⟩
  · left
    refine h.load hown ?_
    rw [show 1 - g % 2 = (g + 1) % 2 by omega, hh, datL_other (by omega)]
  · right
    rw [upd_same] at hy
    injection hy with hy
    rw [← hy] at hh
    refine (h.next hx hg hh ?_ (hown _ (by omega) (by omega))).self
    refine flat_take _ _ x (nsec x) 15 (fun j hj => ?_) hn (by unfold nsec; omega)
    rw [hoth _ (by omega)]
    exact datL_at hj
end Go.Proofs.Ytckabekimdcdcaa
