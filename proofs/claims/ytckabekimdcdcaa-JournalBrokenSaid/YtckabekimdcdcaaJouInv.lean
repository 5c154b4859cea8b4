/-
  What a journal's disk has, sure and loose, while calls fail: the base and the records that are sure, the records and the bases that may come; what each call turns; and what is found behind a crash that tears no sector. Nothing of the program is named here.
  Conditions: none beside those that each line bears.
-/
import Derived.Test.YtckabekimdcdcaaSloCr
namespace Go.Proofs.Ytckabekimdcdcaa
open Go.RowKit
set_option linter.unusedVariables false

/-- What a sector may be behind a crash. -/
def Val (S : Nat → List Nat) (L : Nat → Option (List Nat)) (f : Nat) (y : List Nat) : Prop := y = S f ∨ L f = some y
theorem Val.last_ (S : Nat → List Nat) (L : Nat → Option (List Nat)) (f : Nat) : Val S L f (last S L f) := by
  unfold Val last
  cases h : L f with
  | none => exact .inl rfl
  | some y => exact .inr rfl
theorem Val.sure {S : Nat → List Nat} {f : Nat} {y : List Nat} (h : Val S (fun _ => none) f y) : y = S f := by
  rcases h with h | h
  · exact h
  · cases h

/-- Gen, base, records; the records and the bases that calls left behind that failed. -/
structure JInv (g : Nat) (nb : List Nat) (rs xs bs : List (List Nat)) (S : Nat → List Nat) (L : Nat → Option (List Nat)) : Prop where
  few : rs.length ≤ 64
  short : ∀ j, j < rs.length → (rs.getD j []).length ≤ 50
  xshort : ∀ x ∈ xs, x.length ≤ 50
  bshort : ∀ b ∈ bs, b.length ≤ 960
  logd : ∀ f, f < rs.length → S f = secL g f (rs.getD f []) ∧ L f = none
  next : ∀ y, Val S L rs.length y → rs.length < 64 → ¬ IsRec y g rs.length ∨ ∃ x ∈ xs, y = secL g rs.length x
  behind : ∀ f y, rs.length < f → f < 64 → Val S L f y → ¬ IsRec y g f
  fresh : ∀ f y g', f < 64 → Val S L f y → g < g' → g' < 4294967296 → ¬ IsRec y g' f
  own : (g = 0 ∧ nb = [] ∧ S 64 = zer ∧ L 64 = none) ∨ (0 < g ∧ nb.length ≤ 960 ∧ S (64 + 16 * (g % 2)) = hedL g nb ∧ (sloA S (g % 2)).take nb.length = nb ∧ ∀ f, 64 + 16 * (g % 2) ≤ f → f < 80 + 16 * (g % 2) → L f = none)
  other : ∀ y, Val S L (64 + 16 * ((g + 1) % 2)) y → (y = zer ∨ le (win y 0 4) < g) ∨ ∃ b ∈ bs, y = hedL (g + 1) b

section
variable {g : Nat} {nb : List Nat} {rs xs bs : List (List Nat)} {S : Nat → List Nat} {L : Nat → Option (List Nat)}
theorem JInv.start : JInv 0 [] [] [] [] (fun _ => zer) (fun _ => none) where
  few := by simp
  short := fun j hj => absurd hj (by simp)
  xshort := fun x hx => by cases hx
  bshort := fun x hx => by cases hx
  logd := fun j hj => absurd hj (by simp)
  next := fun y hy _ => by rw [hy.sure]; exact .inl (zer_none _ _)
  behind := fun f y _ _ hy => by rw [hy.sure]; exact zer_none _ _
  fresh := fun f y g' _ hy _ _ => by rw [hy.sure]; exact zer_none _ _
  own := .inl ⟨rfl, rfl, rfl, rfl⟩
  other := fun y hy => .inl (.inl hy.sure)
/-- More may come. -/
theorem JInv.more (h : JInv g nb rs xs bs S L) {xs' bs' : List (List Nat)} (hx : ∀ x ∈ xs, x ∈ xs') (hb : ∀ b ∈ bs, b ∈ bs') (hs : ∀ x ∈ xs', x.length ≤ 50) (ht : ∀ b ∈ bs', b.length ≤ 960) : JInv g nb rs xs' bs' S L :=
  { h with
    xshort := hs
    bshort := ht
    next := fun y hy hn => (h.next y hy hn).imp id fun ⟨x, h1, h2⟩ => ⟨x, hx x h1, h2⟩
    other := fun y hy => (h.other y hy).imp id fun ⟨b, h1, h2⟩ => ⟨b, hb b h1, h2⟩ }
/-- An Append whose Flush failed. -/
theorem JInv.appended (h : JInv g nb rs xs bs S L) {x : List Nat} (hx : x.length ≤ 50) (hn : rs.length < 64) (hg : g < 4294967296) : JInv g nb rs (x :: xs) bs S (upd L rs.length (some (secL g rs.length x))) := by
  have hv : ∀ f y, f ≠ rs.length → Val S (upd L rs.length (some (secL g rs.length x))) f y → Val S L f y := by
    intro f y hf hy
    unfold Val at hy ⊢
    rw [upd_other _ _ _ hf] at hy
    exact hy
  refine { few := h.few, short := h.short, xshort := ?_, bshort := h.bshort, logd := ?_, next := ?_, behind := ?_, fresh := ?_, own := ?_, other := ?_ }
  · intro y hy
    rcases List.mem_cons.1 hy with rfl | hy
    · exact hx
    · exact h.xshort y hy
  · intro f hf
    refine ⟨(h.logd f hf).1, ?_⟩
    rw [upd_other _ _ _ (by omega)]
    exact (h.logd f hf).2
  · intro y hy hn2
    rcases hy with hy | hy
    · exact (h.next y (.inl hy) hn2).imp id fun ⟨x, h1, h2⟩ => ⟨x, List.mem_cons_of_mem _ h1, h2⟩
    · rw [upd_same] at hy
      injection hy with hy
      exact .inr ⟨x, List.mem_cons_self, hy.symm⟩
  · intro f y h1 h2 hy
    exact h.behind f y h1 h2 (hv f y (by omega) hy)
  · intro f y g' hf hy hg1 hg2 hr
    by_cases e : f = rs.length
    · subst e
      rcases hy with hy | hy
      · exact h.fresh _ y g' hf (.inl hy) hg1 hg2 hr
      · rw [upd_same] at hy
        injection hy with hy
        rw [← hy] at hr
        have := secL_other hx hr hg hg2
        omega
    · exact h.fresh f y g' hf (hv f y e hy) hg1 hg2 hr
  · rcases h.own with ⟨h1, h2, h3, h4⟩ | ⟨h1, h2, h3, h4, h5⟩
    · exact .inl ⟨h1, h2, h3, by rw [upd_other _ _ _ (by omega)]; exact h4⟩
    · exact .inr ⟨h1, h2, h3, h4, fun f k1 k2 => by rw [upd_other _ _ _ (by omega)]; exact h5 f k1 k2⟩
  · intro y hy
    exact h.other y (hv _ y (by omega) hy)
/-- An Append that was done. -/
theorem JInv.append_ (h : JInv g nb rs xs [] S L) {x : List Nat} (hx : x.length ≤ 50) (hn : rs.length < 64) (hg : g < 4294967296) : JInv g nb (rs ++ [x]) [] [] (upd (last S L) rs.length (secL g rs.length x)) (fun _ => none) := by
  have hlen : (rs ++ [x]).length = rs.length + 1 := by simp
  have hv : ∀ f y, f ≠ rs.length → Val (upd (last S L) rs.length (secL g rs.length x)) (fun _ => none) f y → Val S L f y := by
    intro f y hf hy
    rw [hy.sure, upd_other _ _ _ hf]
    exact Val.last_ S L f
  have hl : ∀ f, L f = none → last S L f = S f := fun f hf => by unfold last; rw [hf]; rfl
  refine { few := by omega, short := ?_, xshort := (fun y hy => by cases hy), bshort := (fun y hy => by cases hy), logd := ?_, next := ?_, behind := ?_, fresh := ?_, own := ?_, other := ?_ }
  · intro j hj
    rw [hlen] at hj
    by_cases e : j = rs.length
    · subst e
      simpa using hx
    · have := h.short j (by omega)
      rw [List.getD_eq_getElem?_getD, List.getElem?_append_left (by omega), ← List.getD_eq_getElem?_getD]
      exact this
  · intro f hf
    rw [hlen] at hf
    refine ⟨?_, rfl⟩
    by_cases e : f = rs.length
    · subst e
      rw [upd_same]
      simp
    · rw [upd_other _ _ _ e, hl f (h.logd f (by omega)).2, (h.logd f (by omega)).1]
      rw [List.getD_eq_getElem?_getD, List.getD_eq_getElem?_getD, List.getElem?_append_left (by omega)]
  · intro y hy hn2
    rw [hlen] at hy hn2 ⊢
    exact .inl (h.behind _ y (by omega) hn2 (hv _ y (by omega) hy))
  · intro f y h1 h2 hy
    rw [hlen] at h1
    exact h.behind f y (by omega) h2 (hv f y (by omega) hy)
  · intro f y g' hf hy hg1 hg2 hr
    by_cases e : f = rs.length
    · subst e
      rw [hy.sure, upd_same] at hr
      have := secL_other hx hr hg hg2
      omega
    · exact h.fresh f y g' hf (hv f y e hy) hg1 hg2 hr
  · rcases h.own with ⟨h1, h2, h3, h4⟩ | ⟨h1, h2, h3, h4, h5⟩
    · exact .inl ⟨h1, h2, by rw [upd_other _ _ _ (by omega), hl _ h4]; exact h3, rfl⟩
    · refine .inr ⟨h1, h2, by rw [upd_other _ _ _ (by omega), hl _ (h5 _ (by omega) (by omega))]; exact h3, ?_, fun _ _ _ => rfl⟩
      rw [sloA_congr (F' := S) (fun f k1 k2 => by rw [upd_other _ _ _ (by omega), hl _ (h5 _ (by omega) (by omega))])]
      exact h4
  · intro y hy
    exact h.other y (hv _ y (by omega) hy)
/-- A Rebase that failed while its bytes were written, or made sure. -/
theorem JInv.rebasing (h : JInv g nb rs xs bs S L) {b : List Nat} (hb : b.length ≤ 960) {k : Nat} (hk : k ≤ nsec b) : JInv g nb rs xs (b :: bs) S (looL L (g + 1) b k) := by
  have hns := nsec_le hb
  have hno : ∀ f, (f < 65 + 16 * ((g + 1) % 2) ∨ 80 + 16 * ((g + 1) % 2) ≤ f) → looL L (g + 1) b k f = L f := by
    intro f hf
    unfold looL
    rw [if_neg (by omega)]
  have hv : ∀ f y, (f < 65 + 16 * ((g + 1) % 2) ∨ 80 + 16 * ((g + 1) % 2) ≤ f) → Val S (looL L (g + 1) b k) f y → Val S L f y := by
    intro f y hf hy
    unfold Val at hy ⊢
    rw [hno f hf] at hy
    exact hy
  have hm := h.more (xs' := xs) (bs' := b :: bs) (fun _ h => h) (fun _ h => List.mem_cons_of_mem _ h) h.xshort (fun y hy => by
    rcases List.mem_cons.1 hy with rfl | hy
    · exact hb
    · exact h.bshort y hy)
  refine { hm with
    logd := fun f hf => ⟨(h.logd f hf).1, by rw [hno f (by have := h.few; omega)]; exact (h.logd f hf).2⟩
    next := fun y hy hn => hm.next y (hv _ y (by omega) hy) hn
    behind := fun f y h1 h2 hy => h.behind f y h1 h2 (hv f y (by omega) hy)
    fresh := fun f y g' hf hy => h.fresh f y g' hf (hv f y (by omega) hy)
    own := ?_
    other := fun y hy => hm.other y (hv _ y (by omega) hy) }
  rcases h.own with ⟨h1, h2, h3, h4⟩ | ⟨h1, h2, h3, h4, h5⟩
  · exact .inl ⟨h1, h2, h3, by rw [hno _ (by omega)]; exact h4⟩
  · exact .inr ⟨h1, h2, h3, h4, fun f k1 k2 => by rw [hno f (by omega)]; exact h5 f k1 k2⟩
/-- .. ahead of its head: the bytes are sure. -/
theorem JInv.rebased (h : JInv g nb rs xs bs S L) {b : List Nat} (hb : b.length ≤ 960) : JInv g nb rs xs (b :: bs) (datL (last S L) (g + 1) b (nsec b)) (fun _ => none) := by
  have hns := nsec_le hb
  have hl : ∀ f, L f = none → last S L f = S f := fun f hf => by unfold last; rw [hf]; rfl
  have hno : ∀ f, (f < 65 + 16 * ((g + 1) % 2) ∨ 80 + 16 * ((g + 1) % 2) ≤ f) → datL (last S L) (g + 1) b (nsec b) f = last S L f := fun f hf => datL_other (by omega)
  have hv : ∀ f y, (f < 65 + 16 * ((g + 1) % 2) ∨ 80 + 16 * ((g + 1) % 2) ≤ f) → Val (datL (last S L) (g + 1) b (nsec b)) (fun _ => none) f y → Val S L f y := by
    intro f y hf hy
    rw [hy.sure, hno f hf]
    exact Val.last_ S L f
  have hm := h.more (xs' := xs) (bs' := b :: bs) (fun _ h => h) (fun _ h => List.mem_cons_of_mem _ h) h.xshort (fun y hy => by
    rcases List.mem_cons.1 hy with rfl | hy
    · exact hb
    · exact h.bshort y hy)
  refine { hm with
    logd := fun f hf => ⟨by rw [hno f (by have := h.few; omega), hl f (h.logd f hf).2]; exact (h.logd f hf).1, rfl⟩
    next := fun y hy hn => hm.next y (hv _ y (by omega) hy) hn
    behind := fun f y h1 h2 hy => h.behind f y h1 h2 (hv f y (by omega) hy)
    fresh := fun f y g' hf hy => h.fresh f y g' hf (hv f y (by omega) hy)
    own := ?_
    other := fun y hy => hm.other y (hv _ y (by omega) hy) }
  rcases h.own with ⟨h1, h2, h3, h4⟩ | ⟨h1, h2, h3, h4, h5⟩
  · exact .inl ⟨h1, h2, by rw [hno _ (by omega), hl _ h4]; exact h3, rfl⟩
  · refine .inr ⟨h1, h2, by rw [hno _ (by omega), hl _ (h5 _ (by omega) (by omega))]; exact h3, ?_, fun _ _ _ => rfl⟩
    rw [sloA_congr (F' := S) (fun f k1 k2 => by rw [hno f (by omega), hl _ (h5 _ (by omega) (by omega))])]
    exact h4
/-- .. while its head is loose. -/
theorem JInv.headed {b : List Nat} (h : JInv g nb rs xs (b :: bs) S (fun _ => none)) : JInv g nb rs xs (b :: bs) S (upd (fun _ => none) (64 + 16 * ((g + 1) % 2)) (some (hedL (g + 1) b))) := by
  have hv : ∀ f y, f ≠ 64 + 16 * ((g + 1) % 2) → Val S (upd (fun _ => none) (64 + 16 * ((g + 1) % 2)) (some (hedL (g + 1) b))) f y → Val S (fun _ => none) f y := by
    intro f y hf hy
    unfold Val at hy ⊢
    rw [upd_other _ _ _ hf] at hy
    exact hy
  have hno : ∀ f, f ≠ 64 + 16 * ((g + 1) % 2) → (upd (fun _ => none) (64 + 16 * ((g + 1) % 2)) (some (hedL (g + 1) b)) : Nat → Option (List Nat)) f = none := fun f hf => upd_other _ _ _ hf
  have few := h.few
  refine { h with
    logd := fun f hf => ⟨(h.logd f hf).1, hno f (by omega)⟩
    next := fun y hy hn => h.next y (hv _ y (by omega) hy) hn
    behind := fun f y h1 h2 hy => h.behind f y h1 h2 (hv f y (by omega) hy)
    fresh := fun f y g' hf hy => h.fresh f y g' hf (hv f y (by omega) hy)
    own := ?_
    other := ?_ }
  · rcases h.own with ⟨h1, h2, h3, h4⟩ | ⟨h1, h2, h3, h4, h5⟩
    · exact .inl ⟨h1, h2, h3, hno _ (by omega)⟩
    · exact .inr ⟨h1, h2, h3, h4, fun f k1 k2 => hno f (by omega)⟩
  · intro y hy
    rcases hy with hy | hy
    · exact h.other y (.inl hy)
    · rw [upd_same] at hy
      injection hy with hy
      exact .inr ⟨b, List.mem_cons_self, hy.symm⟩
/-- A Rebase that was done. -/
theorem JInv.rebase_ (h : JInv g nb rs xs bs S L) {b : List Nat} (hb : b.length ≤ 960) (hg : g + 1 < 4294967296) : JInv (g + 1) b [] [] [] (savL (last S L) (g + 1) b) (fun _ => none) := by
  have hl : ∀ f, L f = none → last S L f = S f := fun f hf => by unfold last; rw [hf]; rfl
  have hns := nsec_le hb
  have hno : ∀ f, (f < 64 + 16 * ((g + 1) % 2) ∨ 80 + 16 * ((g + 1) % 2) ≤ f) → savL (last S L) (g + 1) b f = last S L f := fun f hf => sav_other hb hf
  have hv : ∀ f y, (f < 64 + 16 * ((g + 1) % 2) ∨ 80 + 16 * ((g + 1) % 2) ≤ f) → Val (savL (last S L) (g + 1) b) (fun _ => none) f y → Val S L f y := by
    intro f y hf hy
    rw [hy.sure, hno f hf]
    exact Val.last_ S L f
  refine { few := by simp, short := (fun j hj => absurd hj (by simp)), xshort := (fun y hy => by cases hy), bshort := (fun y hy => by cases hy), logd := (fun j hj => absurd hj (by simp)), next := ?_, behind := ?_, fresh := ?_, own := ?_, other := ?_ }
  · intro y hy _
    exact .inl (h.fresh 0 y (g + 1) (by omega) (hv 0 y (by omega) hy) (by omega) hg)
  · intro f y _ hf hy
    exact h.fresh f y (g + 1) hf (hv f y (by omega) hy) (by omega) hg
  · intro f y g' hf hy hg1 hg2
    exact h.fresh f y g' hf (hv f y (by omega) hy) (by omega) hg2
  · refine .inr ⟨by omega, hb, upd_same _ _ _, ?_, fun _ _ _ => rfl⟩
    refine flat_take _ _ b (nsec b) 15 (fun j hj => ?_) hns (by unfold nsec; omega)
    unfold savL
    rw [upd_other _ _ _ (by omega)]
    exact datL_at hj
  · intro y hy
    rw [hy.sure, hno _ (by omega)]
    have e : (g + 1 + 1) % 2 = g % 2 := by omega
    rw [e]
    rcases h.own with ⟨h1, h2, h3, h4⟩ | ⟨h1, h2, h3, h4, h5⟩
    · subst h1
      exact .inl (.inl (by rw [show 64 + 16 * (0 % 2) = 64 from rfl, hl _ h4]; exact h3))
    · rw [hl _ (h5 _ (by omega) (by omega)), h3]
      exact .inl (.inr (by rw [hedL_gen (by omega)]; omega))

/-! ### what is found -/

/-- The gen and the base that are loaded. -/
theorem JInv.load (h : JInv g nb rs xs bs S L) (hg : g + 1 < 4294967296) {F : Nat → List Nat} (hF : ∀ f, f < 192 → Val S L f (F f)) (h64 : ∀ f, f < 192 → (F f).length = 64) :
    loadR F = (g, nb) ∨ ∃ b ∈ bs, ∃ B, loadR F = (g + 1, B) ∧ B.length = b.length ∧ hedL (g + 1) B = hedL (g + 1) b := by
  have hS : ∀ f, f < 192 → L f = none → F f = S f := by
    intro f hf hn
    rcases hF f hf with h | h
    · exact h
    · rw [hn] at h; cases h
  have e1 : 1 - (g + 1) % 2 = g % 2 := by omega
  have e2 : 1 - g % 2 = (g + 1) % 2 := by omega
  -- the own slot
  have hown : (g = 0 ∧ nb = [] ∧ ¬ Whole F (g % 2)) ∨ (0 < g ∧ Whole F (g % 2) ∧ sloG F (g % 2) = g ∧ sloB F (g % 2) = nb) := by
    rcases h.own with ⟨h1, h2, h3, h4⟩ | ⟨h1, h2, h3, h4, h5⟩
    · subst h1
      exact .inl ⟨rfl, h2, zer_slot (by show F 64 = zer; rw [hS 64 (by omega) h4]; exact h3)⟩
    · refine .inr ⟨h1, ?_⟩
      refine whole_of (by omega) rfl h2 (by rw [hS _ (by omega) (h5 _ (by omega) (by omega))]; exact h3) ?_
      rw [sloA_congr (F' := S) (fun f k1 k2 => hS f (by omega) (h5 f (by omega) (by omega)))]
      exact h4
  have hne : Whole F ((g + 1) % 2) → sloG F ((g + 1) % 2) < g ∨ ∃ b ∈ bs, F (64 + 16 * ((g + 1) % 2)) = hedL (g + 1) b := by
    intro hw
    rcases h.other _ (hF _ (by omega)) with (h1 | h1) | h1
    · exact absurd hw (zer_slot h1)
    · exact .inl h1
    · exact .inr h1
  by_cases c : Whole F ((g + 1) % 2) ∧ ∃ b ∈ bs, F (64 + 16 * ((g + 1) % 2)) = hedL (g + 1) b
  · obtain ⟨hw, b, hb, hh⟩ := c
    have hbl := h.bshort b hb
    have hG : sloG F ((g + 1) % 2) = g + 1 := by unfold sloG; rw [hh]; exact hedL_gen (by omega)
    have hN : sloN F ((g + 1) % 2) = b.length := by unfold sloN; rw [hh]; exact hedL_len (by omega)
    refine .inr ⟨b, hb, sloB F ((g + 1) % 2), ?_, ?_, ?_⟩
    · refine load_of ⟨hw, hG, rfl⟩ (fun hw2 => ?_)
      rw [e1] at hw2 ⊢
      rcases hown with ⟨h1, _, h2⟩ | ⟨_, _, h2, _⟩
      · exact absurd hw2 h2
      · omega
    · unfold sloB
      rw [List.length_take, hN, sloA_length _ (fun f k1 k2 => h64 f (by omega))]
      omega
    · have := hw.2.2
      rw [hG, hh] at this
      exact this
  · refine .inl ?_
    rcases hown with ⟨h1, h2, h3⟩ | ⟨h1, h2⟩
    · subst h1
      rw [h2]
      refine load_none h3 (fun hw => ?_)
      rcases hne hw with h4 | h4
      · omega
      · exact c ⟨hw, h4⟩
    · refine load_of h2 (fun hw => ?_)
      rw [e2] at hw ⊢
      rcases hne hw with h4 | h4
      · exact h4
      · exact absurd ⟨hw, h4⟩ c
/-- The records of the gen that stands. -/
theorem JInv.recs (h : JInv g nb rs xs bs S L) (hg : g < 4294967296) {F : Nat → List Nat} (hF : ∀ f, f < 192 → Val S L f (F f)) {m : Nat} (hm : Stop F g m) : pays F m = rs ∨ ∃ x ∈ xs, pays F m = rs ++ [x] := by
  have hS : ∀ f, f < 192 → L f = none → F f = S f := by
    intro f hf hn
    rcases hF f hf with h | h
    · exact h
    · rw [hn] at h; cases h
  have few := h.few
  have hin : ∀ f, f < rs.length → F f = secL g f (rs.getD f []) := fun f hf => by
    rw [hS f (by omega) (h.logd f hf).2]
    exact (h.logd f hf).1
  have hpay : ∀ f, f < rs.length → pay F f = rs.getD f [] := fun f hf => by
    unfold pay
    rw [hin f hf, secL_at8 (h.short f hf), secL_pay]
  have hpre : pays F rs.length = rs := by
    refine List.ext_getElem (pays_length _ _) (fun j h1 h2 => ?_)
    have e1 := pays_getD F rs.length j h2
    rw [hpay j h2] at e1
    simpa [List.getD_eq_getElem?_getD, h2, pays_length] using e1
  by_cases hn : rs.length < 64
  · by_cases c : IsRec (F rs.length) g rs.length
    · rcases h.next _ (hF _ (by omega)) hn with h1 | ⟨x, h1, h2⟩
      · exact absurd c h1
      · have hs : Stop F g (rs.length + 1) := by
          refine ⟨by omega, fun j hj => ?_, fun hl => h.behind _ _ (by omega) hl (hF _ (by omega))⟩
          by_cases e : j = rs.length
          · subst e; exact c
          · rw [hin j (by omega)]; exact secL_rec (h.short j (by omega))
        obtain rfl := hm.uniq hs (fun j _ => rfl)
        refine .inr ⟨x, h1, ?_⟩
        rw [pays_succ, hpre]
        congr 2
        unfold pay
        rw [h2, secL_at8 (h.xshort x h1), secL_pay]
    · have hs : Stop F g rs.length := ⟨few, fun j hj => by rw [hin j hj]; exact secL_rec (h.short j hj), fun _ => c⟩
      obtain rfl := hm.uniq hs (fun j _ => rfl)
      exact .inl hpre
  · have hs : Stop F g rs.length := ⟨few, fun j hj => by rw [hin j hj]; exact secL_rec (h.short j hj), fun hl => absurd hl hn⟩
    obtain rfl := hm.uniq hs (fun j _ => rfl)
    exact .inl hpre
/-- .. and of the next one. -/
theorem JInv.recs_next (h : JInv g nb rs xs bs S L) (hg : g + 1 < 4294967296) {F : Nat → List Nat} (hF : ∀ f, f < 192 → Val S L f (F f)) {m : Nat} (hm : Stop F (g + 1) m) : pays F m = [] := by
  have hs : Stop F (g + 1) 0 := ⟨by omega, fun j hj => absurd hj (by omega), fun _ => h.fresh 0 _ (g + 1) (by omega) (hF 0 (by omega)) (by omega) hg⟩
  obtain rfl := hm.uniq hs (fun j _ => rfl)
  rfl
/-- Behind a crash that tears no sector each sector is one of those that it may be. -/
theorem JInv.crash (h : JInv g nb rs xs bs S L) {K tn : Nat} (hS : ∀ f, f < 192 → (S f).length = 64) (hL : ∀ f y, L f = some y → y.length = 64) (ht : tn = 0 ∨ tn = 64) : ∀ f, f < 192 → Val S L f (crashL S L (keptL (keysL 192 L) K) tn f) := by
  intro f _
  rcases crash_or (K := K) hS hL ht f with h1 | ⟨y, h1, h2⟩
  · exact .inl h1
  · exact .inr (by rw [h2]; exact h1)
end
end Go.Proofs.Ytckabekimdcdcaa
