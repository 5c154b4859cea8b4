/-
  The contracts of slot's Save and Load at a disk without trouble.
  Conditions: the disk is known whole and has the slots' sectors.
-/
import Derived.Test.YtckabekimdcdcaaSlotG
namespace Go.Proofs.Ytckabekimdcdcaa
open Go.RowKit
set_option linter.unusedVariables false

/-- What a Save leaves at a disk without trouble. -/
def SaveOk (w : World) (gD gS gM n : Nat) (S : Nat → List Nat) (e : Ending) (w' : World) : Prop :=
  e = .returned (.int .i64 0) ∧ Dsk w' gD gS gM n S (fun _ => none) Tr.none_ ∧ Turns (dk gD gS gM) w w'
theorem save_ok (gD gS gM n : Nat) (S : Nat → List Nat) (L : Nat → Option (List Nat)) (g : Nat) (v : Value) (b : List Nat) (w : World) (h : Dsk w gD gS gM n S L Tr.none_) (hn : 96 ≤ n) (hx : Stay gD gS gM w v b) (hl : b.length ≤ 960) (hg : g < 4294967296) :
    Calls Try.prog 25 #[.pointer (some ⟨gD, 0, none⟩), .int .u32 (g : Int), v] w (SaveOk w gD gS gM n (savL (last S L) g b)) := by
  refine (save_any gD gS gM n S L Tr.none_ g v b w h hn hx hl hg).mono ?_
  rintro e w' ⟨ht, ⟨k, _, _, h1, _⟩ | ⟨_, ⟨h1, _⟩ | ⟨_, h1, _⟩ | ⟨_, _, h1, h2⟩⟩⟩
  · rw [tn_none] at h1; exact absurd none_ans h1
  · rw [tn_none] at h1; exact absurd none_ans h1
  · rw [tn_none] at h1; exact absurd none_ans h1
  · rw [tn_none] at h2
    exact ⟨h1, h2, ht⟩
/-- What a Load leaves at a disk without trouble. -/
def LoadOk (w : World) (gD gS gM n : Nat) (S : Nat → List Nat) (L : Nat → Option (List Nat)) (e : Ending) (w' : World) : Prop :=
  ∃ v, e = .returned (.tuple #[.int .u32 (((loadR (last S L)).1 : Nat) : Int), v, .int .i64 0]) ∧ w'.ownsRow w.heap.size 5 1 v (loadR (last S L)).2.length ((loadR (last S L)).2.map bv) ∧ Dsk w' gD gS gM n S L Tr.none_ ∧ Turns (dk gD gS gM) w w'
theorem load_ok (gD gS gM n : Nat) (S : Nat → List Nat) (L : Nat → Option (List Nat)) (w : World) (h : Dsk w gD gS gM n S L Tr.none_) (hn : 96 ≤ n) :
    Calls Try.prog 23 #[.pointer (some ⟨gD, 0, none⟩)] w (LoadOk w gD gS gM n S L) := by
  refine (load_any gD gS gM n S L Tr.none_ w h hn).mono ?_
  rintro e w' ⟨ht, k, _, _, ⟨_, hd, v, h1, h2⟩ | ⟨h1, _⟩⟩
  · rw [tn_none] at hd
    exact ⟨v, h1, h2, hd, ht⟩
  · rw [tn_none] at h1
    exact absurd none_ans h1
theorem loadR_byte {F : Nat → List Nat} (hb : ∀ f, f < 96 → ∀ y ∈ F f, y < 256) : ∀ y ∈ (loadR F).2, y < 256 := by
  have h1 : ∀ w, w < 2 → ∀ y ∈ sloB F w, y < 256 := fun w hw y hy =>
    flatN_byte (F := F) (a := 65 + 16 * w) (k := 15) (fun j hj => hb _ (by omega)) y (List.mem_of_mem_take hy)
  have h2 : ∀ x, x ≤ 2 → ∀ y ∈ (loadN F x).2, y < 256 := by
    intro x
    induction x with
    | zero => intro _ y hy; cases hy
    | succ x ih =>
      intro hx
      unfold loadN
      split
      · exact h1 x (by omega)
      · exact ih (by omega)
  exact h2 2 (Nat.le_refl _)
/-- What was saved at a disk of which nothing is whole is loaded. -/
theorem load_sav {F : Nat → List Nat} {g : Nat} {b : List Nat} (hg : g < 4294967296) (hb : b.length ≤ 960) (ho : Whole F (1 - g % 2) → sloG F (1 - g % 2) < g) : loadR (savL F g b) = (g, b) := by
  refine load_of (sav_whole hg hb) (fun hw => ?_)
  have hs : ∀ f, 64 + 16 * (1 - g % 2) ≤ f → f < 80 + 16 * (1 - g % 2) → savL F g b f = F f := fun f h1 h2 => sav_other hb (by omega)
  have hG : sloG (savL F g b) (1 - g % 2) = sloG F (1 - g % 2) := by unfold sloG; rw [hs _ (by omega) (by omega)]
  rw [hG]
  refine ho ?_
  have hN : sloN (savL F g b) (1 - g % 2) = sloN F (1 - g % 2) := by unfold sloN; rw [hs _ (by omega) (by omega)]
  have hB : sloB (savL F g b) (1 - g % 2) = sloB F (1 - g % 2) := by
    unfold sloB
    rw [hN, sloA_congr (F' := F) (fun f h1 h2 => hs f (by omega) (by omega))]
  unfold Whole at hw ⊢
  rw [hN, hG, hB, hs _ (by omega) (by omega)] at hw
  exact hw
/-- A disk of zeros. -/
theorem zer_whole (w : Nat) : ¬ Whole (fun _ => zer) w := zer_slot rfl

end Go.Proofs.Ytckabekimdcdcaa
