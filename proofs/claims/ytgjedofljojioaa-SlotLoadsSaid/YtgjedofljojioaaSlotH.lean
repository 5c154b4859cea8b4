/-
  The contracts of slot's Save and Load at a disk without trouble, and of layer 5's own question 'answers'.
  Conditions: the disk is known whole and has the slots' sectors.
-/
import Derived.Test.YtgjedofljojioaaSlotG
import Derived.WalkLawsBesides
import Derived.Lib.SlBytesConst
import Derived.Lib.SmallJoins
import Derived.Outline
namespace Go.Proofs.Ytgjedofljojioaa
open Go.RowKit
set_option linter.unusedVariables false

/-- What a Save leaves at a disk without trouble. -/
def SaveOk (w : World) (gD gS gM n : Nat) (S : Nat → List Nat) (e : Ending) (w' : World) : Prop :=
  e = .returned (.int .i64 0) ∧ Dsk w' gD gS gM n S (fun _ => none) Tr.none_ ∧ Turns (dk gD gS gM) w w'
theorem save_ok (gD gS gM n : Nat) (S : Nat → List Nat) (L : Nat → Option (List Nat)) (g : Nat) (v : Value) (b : List Nat) (w : World) (h : Dsk w gD gS gM n S L Tr.none_) (hn : 96 ≤ n) (hx : Stay gD gS gM w v b) (hl : b.length ≤ 960) (hg : g < 4294967296) :
    Calls Try.prog 10 #[.pointer (some ⟨gD, 0, none⟩), .int .u32 (g : Int), v] w (SaveOk w gD gS gM n (savL (last S L) g b)) := by
  refine (save_any gD gS gM n S L Tr.none_ g v b w h hn hx hl hg).mono ?_
  rintro e w' ⟨ht, ⟨k, _, _, h1, _⟩ | ⟨_, ⟨h1, _⟩ | ⟨_, h1, _⟩ | ⟨_, _, h1, h2⟩⟩⟩
  · rw [tn_none] at h1; exact absurd none_ans h1
  · rw [tn_none] at h1; exact absurd none_ans h1
  · rw [tn_none] at h1; exact absurd none_ans h1
  · rw [tn_none] at h2
    exact ⟨h1, h2, ht⟩
/-- What a Load leaves at a disk without trouble. -/
def LoadOk (w : World) (gD gS gM n : Nat) (S : Nat → List Nat) (L : Nat → Option (List Nat)) (e : Ending) (w' : World) : Prop :=
  ∃ v, e = .returned (.tuple #[.int .u32 (((loadR (last S L)).1 : Nat) : Int), v, .int .i64 0]) ∧ w'.ownsRow w.heap.size 5 1 v (loadR (last S L)).2.length ((loadR (last S L)).2.map bv) ∧ Dsk w' gD gS gM n S L Tr.none_ ∧ Turns (dk gD gS gM) w w'
theorem load_ok (gD gS gM n : Nat) (S : Nat → List Nat) (L : Nat → Option (List Nat)) (w : World) (h : Dsk w gD gS gM n S L Tr.none_) (hn : 96 ≤ n) :
    Calls Try.prog 12 #[.pointer (some ⟨gD, 0, none⟩)] w (LoadOk w gD gS gM n S L) := by
  refine (load_any gD gS gM n S L Tr.none_ w h hn).mono ?_
  rintro e w' ⟨ht, k, _, _, ⟨_, hd, v, h1, h2⟩ | ⟨h1, _⟩⟩
  · rw [tn_none] at hd
    exact ⟨v, h1, h2, hd, ht⟩
  · rw [tn_none] at h1
    exact absurd none_ans h1
theorem loadR_byte {F : Nat → List Nat} (hb : ∀ f, f < 96 → ∀ y ∈ F f, y < 256) : ∀ y ∈ (loadR F).2, y < 256 := by
  have h1 : ∀ w, w < 2 → ∀ y ∈ sloB F w, y < 256 := fun w hw y hy =>
    flatN_byte (F := F) (a := 65 + 16 * w) (k := 15) (fun j hj => hb _ (by omega)) y (List.mem_of_mem_take hy)
  have h2 : ∀ x, x ≤ 2 → ∀ y ∈ (loadN F x).2, y < 256 := by
    intro x
    induction x with
    | zero => intro _ y hy; cases hy
    | succ x ih =>
      intro hx
      unfold loadN
      split
      · exact h1 x (by omega)
      · exact ih (by omega)
  exact h2 2 (Nat.le_refl _)
/-- What was saved at a disk of which nothing is whole is loaded. -/
theorem load_sav {F : Nat → List Nat} {g : Nat} {b : List Nat} (hg : g < 4294967296) (hb : b.length ≤ 960) (ho : Whole F (1 - g % 2) → sloG F (1 - g % 2) < g) : loadR (savL F g b) = (g, b) := by
  refine load_of (sav_whole hg hb) (fun hw => ?_)
  have hs : ∀ f, 64 + 16 * (1 - g % 2) ≤ f → f < 80 + 16 * (1 - g % 2) → savL F g b f = F f := fun f h1 h2 => sav_other hb (by omega)
  have hG : sloG (savL F g b) (1 - g % 2) = sloG F (1 - g % 2) := by unfold sloG; rw [hs _ (by omega) (by omega)]
  rw [hG]
  refine ho ?_
  have hN : sloN (savL F g b) (1 - g % 2) = sloN F (1 - g % 2) := by unfold sloN; rw [hs _ (by omega) (by omega)]
  have hB : sloB (savL F g b) (1 - g % 2) = sloB F (1 - g % 2) := by
    unfold sloB
    rw [hN, sloA_congr (F' := F) (fun f h1 h2 => hs f (by omega) (by omega))]
  unfold Whole at hw ⊢
  rw [hN, hG, hB, hs _ (by omega) (by omega)] at hw
  exact hw
/-- A disk of zeros. -/
theorem zer_whole (w : Nat) : ¬ Whole (fun _ => zer) w := zer_slot rfl

set_option maxRecDepth 20000 in
set_option maxHeartbeats 1000000 in
theorem slotAnswers_any (w : World) :
    Calls Try.prog 8 #[] w fun e w' => e = .returned (.bool true) ∧ Below w.heap.size w w' := by
  go_enter Try.func8, Try.ntmps8
  go_wp2_with fail
  refine (dnew_any 192 192 w (by unfold NearD; omega)).mono ?_
  rintro e w1 ⟨rfl, hd1, hb1, hz1⟩
  have HD1 := Lib.hid (hd1.alloc (.cells #[.int .u8 120] 5 (1, 2)))
  have HN1 := Lib.hid (hb1.alloc hb1.size (.cells #[.int .u8 120] 5 (1, 2)))
  have hx : Bts (w1.alloc (.cells #[.int .u8 120] 5 (1, 2))) (w1.heap.size + 1) (.slice (some ⟨w1.heap.size, 0, none⟩) 1 1) [120] :=
    ⟨_, 1, 1, rfl, rfl, by simp [maxLen], ⟨by omega, fun h => by cases h⟩, by simp [maxLen], (fun j hj => by match j, hj with | 0, _ => decide), fun _ => ⟨w1.heap.size, 0, rfl, by omega, fun j hj => by
      match j, hj with
      | 0, _ => exact World.cell?_alloc_mark w1 _ _ _ 0⟩⟩
  have hcv := Lib.run_convert_bytes_const (P := Try.prog) w1 31 5 #[.int .u8 120] 1 1 Try.underlying31 Try.underlying5
  have HX1 := Lib.hid (Stay.of_ne (gD := w.heap.size + 2) (gS := w.heap.size) (gM := w.heap.size + 1) hx (by simp) (by rintro (e | e | e) <;> omega))
  clear hd1 hb1 hz1 hx
  go_wp2_with fail
  refine (save_ok _ _ _ _ _ _ 5 _ [120] _ HD1.out (by omega) HX1.out (by simp) (by omega)).mono ?_
  rintro e w2 ⟨rfl, hd2, ht2⟩
  have HD2 := Lib.hid hd2
  have HN2 := Lib.hid (ht2.fresh_ HN1.out (Nat.le_refl _) (by omega) (Nat.le_refl _) (by omega))
  clear hd2 ht2
  go_wp2_with fail
  refine (load_ok _ _ _ _ _ _ _ HD2.out (by omega)).mono ?_
  rintro e w3 ⟨v, rfl, ho, hd3, ht3⟩
  have hl : loadR (last (savL (last (fun _ => zer) (fun _ => none)) 5 [120]) (fun _ => none)) = (5, [120]) := load_sav (F := fun _ => zer) (by omega) (by simp) (fun h => absurd h (zer_whole _))
  rw [hl] at ho ⊢
  have HN3 := Lib.hid (ht3.fresh_ HN2.out (Nat.le_refl _) (by omega) (Nat.le_refl _) (by omega))
  obtain ⟨g, cap, rfl⟩ := own_shape ho (by simp)
  have hc0 : w3.cell? ⟨g, 0, none⟩ = some (.int .u8 120) := by
    rw [ho.cellAt 0 (by simp)]
    rfl
  have hst : (convert 31 9 (.slice (some ⟨g, 0, none⟩) 1 cap)).run Try.prog w3 = .ok (.string ⟨#[120]⟩) w3 :=
    run_convert_bytes_back w3 31 9 5 ⟨g, 0, none⟩ cap [120] Try.underlying31 Try.underlying5 Try.underlying9 (fun j hj => by
      match j, hj with
      | 0, _ => simp [Addr.add, hc0])
  clear ho hd3 ht3 hl hcv
  go_wp2
  go_ret
  exact ⟨rfl, HN3.out⟩
end Go.Proofs.Ytgjedofljojioaa
