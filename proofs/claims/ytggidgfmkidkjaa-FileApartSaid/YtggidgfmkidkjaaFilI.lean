/-
  The contracts of files on a disk: where a page and a slot lie; what is read and written, and what is refused.
  Conditions: the disk is known whole, or there is none; what is written is read in memory that the work does not turn.
-/
import Derived.Test.YtggidgfmkidkjaaDsk
namespace Go.Proofs.Ytggidgfmkidkjaa
open Go.RowKit
set_option linter.unusedVariables false

/-- Page g of file f stands in sector p. -/
def PageAt (f g : Int) (p : Nat) : Prop := (0 ≤ f ∧ f < 4 ∧ 0 ≤ g ∧ g < 16) ∧ (p : Int) = 96 + 16 * f + g
def NoPage (f g : Int) : Prop := f < 0 ∨ 3 < f ∨ g < 0 ∨ 15 < g
def SlotAt (s : Int) (p : Nat) : Prop := (0 ≤ s ∧ s < 32) ∧ (p : Int) = 160 + s
def NoSlot (s : Int) : Prop := s < 0 ∨ 31 < s
/-- A pointer to a disk that is known. -/
def IsD (w : World) (a : Option Addr) : Prop := ∃ gD gS gM n S L t, a = some ⟨gD, 0, none⟩ ∧ Dsk w gD gS gM n S L t
theorem Dsk.isD {w : World} {gD gS gM n : Nat} {S : Nat → List Nat} {L : Nat → Option (List Nat)} {t : Tr} (h : Dsk w gD gS gM n S L t) : IsD w (some ⟨gD, 0, none⟩) := ⟨_, _, _, _, _, _, _, rfl, h⟩
/-- What a read leaves that is done. -/
def FReadPost (w : World) (gD gS gM n : Nat) (S : Nat → List Nat) (L : Nat → Option (List Nat)) (t : Tr) (p : Nat) (e : Ending) (w' : World) : Prop :=
  ∃ g, e = .returned (.tuple #[.slice (some ⟨g, 0, none⟩) 64 64, .int .i64 0]) ∧ w.heap.size ≤ g ∧ Blk w' g 5 ((last S L p).map bv).toArray ∧ Dsk w' gD gS gM n S L t.next ∧ Turns (dk gD gS gM) w w'
/-- What a call leaves that the disk does not do. -/
def FBadPost (w : World) (gD gS gM n : Nat) (S : Nat → List Nat) (L : Nat → Option (List Nat)) (t : Tr) (v : Value) (e : Ending) (w' : World) : Prop :=
  e = .returned v ∧ Dsk w' gD gS gM n S L t.next ∧ Turns (dk gD gS gM) w w'
def FWritePost (w : World) (gD gS gM n : Nat) (S : Nat → List Nat) (L : Nat → Option (List Nat)) (t : Tr) (e : Ending) (w' : World) : Prop :=
  e = .returned (.int .i64 0) ∧ Dsk w' gD gS gM n S L t.next ∧ Turns (dk gD gS gM) w w'
/-- No disk has the sector. -/
def HasNo (w : World) (a : Option Addr) (k : Int) : Prop := Calls Try.prog 19 #[.pointer a, .int .i64 k] w fun e w' => e = .returned (.bool false) ∧ w = w'
theorem hasNo_nil (w : World) (k : Int) : HasNo w none k := dhas_nil k w
theorem hasNo_out {w : World} {a : Option Addr} (h : IsD w a) : HasNo w a (-1) := by
  obtain ⟨gD, gS, gM, n, S, L, t, rfl, h⟩ := h
  exact dhas_no gD gS gM n S L t (-1) w h (.inl (by omega))
set_option maxRecDepth 20000 in
theorem pageAt_no (f g : Int) (w : World) (h : NoPage f g) : Calls Try.prog 17 #[.int .i64 f, .int .i64 g] w fun e w' => e = .returned (.int .i64 (-1)) ∧ w = w' := by
  unfold NoPage at h
  by_cases h0 : f < 0
  · have d0 : decide (f < 0) = true := decide_eq_true h0
    go_enter Try.func17, Try.ntmps17
    go_wp2
    go_ret
    exact ⟨rfl, rfl⟩
  · have d0 : decide (f < 0) = false := decide_eq_false h0
    by_cases h1 : 4 ≤ f
    · have d1 : decide (4 ≤ f) = true := decide_eq_true h1
      go_enter Try.func17, Try.ntmps17
      go_wp2
      go_ret
      exact ⟨rfl, rfl⟩
    · have d1 : decide (4 ≤ f) = false := decide_eq_false h1
      by_cases h2 : g < 0
      · have d2 : decide (g < 0) = true := decide_eq_true h2
        go_enter Try.func17, Try.ntmps17
        go_wp2
        go_ret
        exact ⟨rfl, rfl⟩
      · have d2 : decide (g < 0) = false := decide_eq_false h2
        have d3 : decide (16 ≤ g) = true := decide_eq_true (by omega)
        go_enter Try.func17, Try.ntmps17
        go_wp2
        go_ret
        exact ⟨rfl, rfl⟩
set_option maxRecDepth 20000 in
theorem pageAt_yes (f g : Int) (p : Nat) (w : World) (h : PageAt f g p) : Calls Try.prog 17 #[.int .i64 f, .int .i64 g] w fun e w' => e = .returned (.int .i64 (p : Int)) ∧ w = w' := by
  obtain ⟨⟨h0, h1, h2, h3⟩, hp⟩ := h
  have d0 : decide (f < 0) = false := decide_eq_false (by omega)
  have d1 : decide (4 ≤ f) = false := decide_eq_false (by omega)
  have d2 : decide (g < 0) = false := decide_eq_false (by omega)
  have d3 : decide (16 ≤ g) = false := decide_eq_false (by omega)
  have HP := Lib.hid hp
  clear hp
  go_enter Try.func17, Try.ntmps17
  go_wp2
  go_ret
  refine ⟨?_, rfl⟩
  rw [HP.out]
  rfl
set_option maxRecDepth 20000 in
theorem slotAt_no (s : Int) (w : World) (h : NoSlot s) : Calls Try.prog 18 #[.int .i64 s] w fun e w' => e = .returned (.int .i64 (-1)) ∧ w = w' := by
  unfold NoSlot at h
  by_cases h0 : s < 0
  · have d0 : decide (s < 0) = true := decide_eq_true h0
    go_enter Try.func18, Try.ntmps18
    go_wp2
    go_ret
    exact ⟨rfl, rfl⟩
  · have d0 : decide (s < 0) = false := decide_eq_false h0
    have d1 : decide (32 ≤ s) = true := decide_eq_true (by omega)
    go_enter Try.func18, Try.ntmps18
    go_wp2
    go_ret
    exact ⟨rfl, rfl⟩
set_option maxRecDepth 20000 in
theorem slotAt_yes (s : Int) (p : Nat) (w : World) (h : SlotAt s p) : Calls Try.prog 18 #[.int .i64 s] w fun e w' => e = .returned (.int .i64 (p : Int)) ∧ w = w' := by
  obtain ⟨⟨h0, h1⟩, hp⟩ := h
  have d0 : decide (s < 0) = false := decide_eq_false (by omega)
  have d1 : decide (32 ≤ s) = false := decide_eq_false (by omega)
  have HP := Lib.hid hp
  clear hp
  go_enter Try.func18, Try.ntmps18
  go_wp2
  go_ret
  refine ⟨?_, rfl⟩
  rw [HP.out]
  rfl
section
variable (gD gS gM n : Nat) (S : Nat → List Nat) (L : Nat → Option (List Nat)) (t : Tr) (w : World)
set_option maxRecDepth 20000 in
theorem fread_out (a : Option Addr) (f g : Int) (h : a = none ∨ (NoPage f g ∧ IsD w a)) : Calls Try.prog 9 #[.pointer a, .int .i64 f, .int .i64 g] w fun e w' => e = .returned (.tuple #[.slice none 0 0, .int .i64 1]) ∧ Below w.heap.size w w' := by
  obtain ⟨k, HP, HN⟩ : ∃ k : Int, Hid (Calls Try.prog 17 #[.int .i64 f, .int .i64 g] w fun e w' => e = .returned (.int .i64 k) ∧ w = w') ∧ Hid (HasNo w a k) := by
    by_cases hn : NoPage f g
    · refine ⟨-1, Lib.hid (pageAt_no f g w hn), Lib.hid ?_⟩
      rcases h with rfl | ⟨-, h⟩
      · exact hasNo_nil _ _
      · exact hasNo_out h
    · have ha : a = none := h.resolve_right (fun h => hn h.1)
      subst ha
      exact ⟨_, Lib.hid (pageAt_yes f g (96 + 16 * f + g).toNat w (by unfold NoPage at hn; exact ⟨by omega, by omega⟩)), Lib.hid (hasNo_nil _ _)⟩
  clear h
  go_enter Try.func9, Try.ntmps9
  go_wp2_with fail
  refine HP.out.mono ?_
  rintro e w1 ⟨rfl, rfl⟩
  go_wp2_with fail
  refine (dread_none a k w HN.out).mono ?_
  rintro e w1 ⟨rfl, rfl⟩
  go_wp2
  go_ret2
  exact ⟨rfl, Below.refl _ _⟩
set_option maxRecDepth 20000 in
theorem fread_bad (f g : Int) (p : Nat) (hD : Dsk w gD gS gM n S L t) (h : PageAt f g p) (hp : p < n) (ha : t.ans ≠ 0) : Calls Try.prog 9 #[.pointer (some ⟨gD, 0, none⟩), .int .i64 f, .int .i64 g] w (FBadPost w gD gS gM n S L t (.tuple #[.slice none 0 0, .int .i64 t.ans])) := by
  have HP := Lib.hid (pageAt_yes f g p w h)
  have HR := Lib.hid (dread_bad gD gS gM n S L t p w hD hp ha)
  clear h hD hp ha
  go_enter Try.func9, Try.ntmps9
  go_wp2_with fail
  refine HP.out.mono ?_
  rintro e w1 ⟨rfl, rfl⟩
  go_wp2_with fail
  refine HR.out.mono ?_
  rintro e w2 ⟨rfl, h1, h2, -⟩
  go_wp2
  go_ret2
  exact ⟨rfl, h1, h2⟩
set_option maxRecDepth 20000 in
theorem fread_yes (f g : Int) (p : Nat) (hD : Dsk w gD gS gM n S L t) (h : PageAt f g p) (hp : p < n) (ha : t.ans = 0) : Calls Try.prog 9 #[.pointer (some ⟨gD, 0, none⟩), .int .i64 f, .int .i64 g] w (FReadPost w gD gS gM n S L t p) := by
  have HP := Lib.hid (pageAt_yes f g p w h)
  have HR := Lib.hid (dread_yes gD gS gM n S L t p w hD hp ha)
  clear h hD hp ha
  go_enter Try.func9, Try.ntmps9
  go_wp2_with fail
  refine HP.out.mono ?_
  rintro e w1 ⟨rfl, rfl⟩
  go_wp2_with fail
  refine HR.out.mono ?_
  rintro e w2 ⟨rfl, h1, h2, h3, h4⟩
  go_wp2
  go_ret2
  exact ⟨_, rfl, by omega, h1, h2, h3⟩
set_option maxRecDepth 20000 in
theorem fslot_out (a : Option Addr) (s : Int) (h : a = none ∨ (NoSlot s ∧ IsD w a)) : Calls Try.prog 11 #[.pointer a, .int .i64 s] w fun e w' => e = .returned (.tuple #[.slice none 0 0, .int .i64 1]) ∧ Below w.heap.size w w' := by
  obtain ⟨k, HP, HN⟩ : ∃ k : Int, Hid (Calls Try.prog 18 #[.int .i64 s] w fun e w' => e = .returned (.int .i64 k) ∧ w = w') ∧ Hid (HasNo w a k) := by
    by_cases hn : NoSlot s
    · refine ⟨-1, Lib.hid (slotAt_no s w hn), Lib.hid ?_⟩
      rcases h with rfl | ⟨-, h⟩
      · exact hasNo_nil _ _
      · exact hasNo_out h
    · have ha : a = none := h.resolve_right (fun h => hn h.1)
      subst ha
      exact ⟨_, Lib.hid (slotAt_yes s (160 + s).toNat w (by unfold NoSlot at hn; exact ⟨by omega, by omega⟩)), Lib.hid (hasNo_nil _ _)⟩
  clear h
  go_enter Try.func11, Try.ntmps11
  go_wp2_with fail
  refine HP.out.mono ?_
  rintro e w1 ⟨rfl, rfl⟩
  go_wp2_with fail
  refine (dread_none a k w HN.out).mono ?_
  rintro e w1 ⟨rfl, rfl⟩
  go_wp2
  go_ret2
  exact ⟨rfl, Below.refl _ _⟩
set_option maxRecDepth 20000 in
theorem fslot_bad (s : Int) (p : Nat) (hD : Dsk w gD gS gM n S L t) (h : SlotAt s p) (hp : p < n) (ha : t.ans ≠ 0) : Calls Try.prog 11 #[.pointer (some ⟨gD, 0, none⟩), .int .i64 s] w (FBadPost w gD gS gM n S L t (.tuple #[.slice none 0 0, .int .i64 t.ans])) := by
  have HP := Lib.hid (slotAt_yes s p w h)
  have HR := Lib.hid (dread_bad gD gS gM n S L t p w hD hp ha)
  clear h hD hp ha
  go_enter Try.func11, Try.ntmps11
  go_wp2_with fail
  refine HP.out.mono ?_
  rintro e w1 ⟨rfl, rfl⟩
  go_wp2_with fail
  refine HR.out.mono ?_
  rintro e w2 ⟨rfl, h1, h2, -⟩
  go_wp2
  go_ret2
  exact ⟨rfl, h1, h2⟩
set_option maxRecDepth 20000 in
theorem fslot_yes (s : Int) (p : Nat) (hD : Dsk w gD gS gM n S L t) (h : SlotAt s p) (hp : p < n) (ha : t.ans = 0) : Calls Try.prog 11 #[.pointer (some ⟨gD, 0, none⟩), .int .i64 s] w (FReadPost w gD gS gM n S L t p) := by
  have HP := Lib.hid (slotAt_yes s p w h)
  have HR := Lib.hid (dread_yes gD gS gM n S L t p w hD hp ha)
  clear h hD hp ha
  go_enter Try.func11, Try.ntmps11
  go_wp2_with fail
  refine HP.out.mono ?_
  rintro e w1 ⟨rfl, rfl⟩
  go_wp2_with fail
  refine HR.out.mono ?_
  rintro e w2 ⟨rfl, h1, h2, h3, h4⟩
  go_wp2
  go_ret2
  exact ⟨_, rfl, by omega, h1, h2, h3⟩
set_option maxRecDepth 20000 in
theorem fwrite_out (a : Option Addr) (A : Option Addr) (l c : Nat) (f g : Int) (h : a = none ∨ (NoPage f g ∧ IsD w a)) : Calls Try.prog 8 #[.pointer a, .int .i64 f, .int .i64 g, .slice A l c] w fun e w' => e = .returned (.int .i64 1) ∧ Below w.heap.size w w' := by
  obtain ⟨k, HP, HN⟩ : ∃ k : Int, Hid (Calls Try.prog 17 #[.int .i64 f, .int .i64 g] w fun e w' => e = .returned (.int .i64 k) ∧ w = w') ∧ Hid (HasNo w a k) := by
    by_cases hn : NoPage f g
    · refine ⟨-1, Lib.hid (pageAt_no f g w hn), Lib.hid ?_⟩
      rcases h with rfl | ⟨-, h⟩
      · exact hasNo_nil _ _
      · exact hasNo_out h
    · have ha : a = none := h.resolve_right (fun h => hn h.1)
      subst ha
      exact ⟨_, Lib.hid (pageAt_yes f g (96 + 16 * f + g).toNat w (by unfold NoPage at hn; exact ⟨by omega, by omega⟩)), Lib.hid (hasNo_nil _ _)⟩
  clear h
  go_enter Try.func8, Try.ntmps8
  go_wp2_with fail
  refine HP.out.mono ?_
  rintro e w1 ⟨rfl, rfl⟩
  go_wp2_with fail
  refine (dwrite_none a A l c k w HN.out).mono ?_
  rintro e w1 ⟨rfl, rfl⟩
  go_wp2
  go_ret
  exact ⟨rfl, Below.refl _ _⟩
set_option maxRecDepth 20000 in
theorem fwrite_size (A : Option Addr) (l c : Nat) (f g : Int) (p : Nat) (hD : Dsk w gD gS gM n S L t) (h : PageAt f g p) (hp : p < n) (hl : l ≠ 64) : Calls Try.prog 8 #[.pointer (some ⟨gD, 0, none⟩), .int .i64 f, .int .i64 g, .slice A l c] w fun e w' => e = .returned (.int .i64 1) ∧ Below w.heap.size w w' := by
  have HP := Lib.hid (pageAt_yes f g p w h)
  have HR := Lib.hid (dwrite_size (some ⟨gD, 0, none⟩) A l c p w hl (dhas_yes _ _ _ _ _ _ _ p w hD hp))
  clear h hD hp hl
  go_enter Try.func8, Try.ntmps8
  go_wp2_with fail
  refine HP.out.mono ?_
  rintro e w1 ⟨rfl, rfl⟩
  go_wp2_with fail
  refine HR.out.mono ?_
  rintro e w1 ⟨rfl, rfl⟩
  go_wp2
  go_ret
  exact ⟨rfl, Below.refl _ _⟩
set_option maxRecDepth 20000 in
theorem fwrite_bad (A : Option Addr) (c : Nat) (f g : Int) (p : Nat) (hD : Dsk w gD gS gM n S L t) (h : PageAt f g p) (hp : p < n) (ha : t.ans ≠ 0) : Calls Try.prog 8 #[.pointer (some ⟨gD, 0, none⟩), .int .i64 f, .int .i64 g, .slice A 64 c] w (FBadPost w gD gS gM n S L t (.int .i64 t.ans)) := by
  have HP := Lib.hid (pageAt_yes f g p w h)
  have HR := Lib.hid (dwrite_bad gD gS gM n S L t p A c w hD hp ha)
  clear h hD hp ha
  go_enter Try.func8, Try.ntmps8
  go_wp2_with fail
  refine HP.out.mono ?_
  rintro e w1 ⟨rfl, rfl⟩
  go_wp2_with fail
  refine HR.out.mono ?_
  rintro e w2 ⟨rfl, h1, h2, -⟩
  go_wp2
  go_ret
  exact ⟨rfl, h1, h2⟩
set_option maxRecDepth 20000 in
theorem fwrite_yes (v : Value) (xs : List Nat) (f g : Int) (p : Nat) (hD : Dsk w gD gS gM n S L t) (h : PageAt f g p) (hp : p < n) (ha : t.ans = 0) (hx : ∀ w', Only gD w w' → ∃ B, Bts w' B v xs ∧ B ≤ w.heap.size) (hl : xs.length = 64) : Calls Try.prog 8 #[.pointer (some ⟨gD, 0, none⟩), .int .i64 f, .int .i64 g, v] w (FWritePost w gD gS gM n S (upd L p (some xs)) t) := by
  have HP := Lib.hid (pageAt_yes f g p w h)
  have HR := Lib.hid (dwrite_yes gD gS gM n S L t p v xs w hD hp ha hx hl)
  obtain ⟨A, l, c, rfl, -⟩ : ∃ A l c, v = .slice A l c ∧ True := by
    obtain ⟨B, hb, -⟩ := hx w (Only.refl _ _)
    obtain ⟨A, l, c, hv, -⟩ := hb
    exact ⟨A, l, c, hv, trivial⟩
  clear h hD hp ha hx hl
  go_enter Try.func8, Try.ntmps8
  go_wp2_with fail
  refine HP.out.mono ?_
  rintro e w1 ⟨rfl, rfl⟩
  go_wp2_with fail
  refine HR.out.mono ?_
  rintro e w2 hpost
  obtain ⟨rfl, h1, h2⟩ : e = .returned (.int .i64 0) ∧ Dsk w2 gD gS gM n S (upd L p (some xs)) t.next ∧ Turns (dk gD gS gM) w w2 := ⟨hpost.1, hpost.2.1, hpost.2.2.1⟩
  clear hpost
  go_wp2
  go_ret
  exact ⟨rfl, h1, h2⟩
set_option maxRecDepth 20000 in
theorem fwslot_out (a : Option Addr) (A : Option Addr) (l c : Nat) (s : Int) (h : a = none ∨ (NoSlot s ∧ IsD w a)) : Calls Try.prog 10 #[.pointer a, .int .i64 s, .slice A l c] w fun e w' => e = .returned (.int .i64 1) ∧ Below w.heap.size w w' := by
  obtain ⟨k, HP, HN⟩ : ∃ k : Int, Hid (Calls Try.prog 18 #[.int .i64 s] w fun e w' => e = .returned (.int .i64 k) ∧ w = w') ∧ Hid (HasNo w a k) := by
    by_cases hn : NoSlot s
    · refine ⟨-1, Lib.hid (slotAt_no s w hn), Lib.hid ?_⟩
      rcases h with rfl | ⟨-, h⟩
      · exact hasNo_nil _ _
      · exact hasNo_out h
    · have ha : a = none := h.resolve_right (fun h => hn h.1)
      subst ha
      exact ⟨_, Lib.hid (slotAt_yes s (160 + s).toNat w (by unfold NoSlot at hn; exact ⟨by omega, by omega⟩)), Lib.hid (hasNo_nil _ _)⟩
  clear h
  go_enter Try.func10, Try.ntmps10
  go_wp2_with fail
  refine HP.out.mono ?_
  rintro e w1 ⟨rfl, rfl⟩
  go_wp2_with fail
  refine (dwrite_none a A l c k w HN.out).mono ?_
  rintro e w1 ⟨rfl, rfl⟩
  go_wp2
  go_ret
  exact ⟨rfl, Below.refl _ _⟩
set_option maxRecDepth 20000 in
theorem fwslot_size (A : Option Addr) (l c : Nat) (s : Int) (p : Nat) (hD : Dsk w gD gS gM n S L t) (h : SlotAt s p) (hp : p < n) (hl : l ≠ 64) : Calls Try.prog 10 #[.pointer (some ⟨gD, 0, none⟩), .int .i64 s, .slice A l c] w fun e w' => e = .returned (.int .i64 1) ∧ Below w.heap.size w w' := by
  have HP := Lib.hid (slotAt_yes s p w h)
  have HR := Lib.hid (dwrite_size (some ⟨gD, 0, none⟩) A l c p w hl (dhas_yes _ _ _ _ _ _ _ p w hD hp))
  clear h hD hp hl
  go_enter Try.func10, Try.ntmps10
  go_wp2_with fail
  refine HP.out.mono ?_
  rintro e w1 ⟨rfl, rfl⟩
  go_wp2_with fail
  refine HR.out.mono ?_
  rintro e w1 ⟨rfl, rfl⟩
  go_wp2
  go_ret
  exact ⟨rfl, Below.refl _ _⟩
set_option maxRecDepth 20000 in
theorem fwslot_bad (A : Option Addr) (c : Nat) (s : Int) (p : Nat) (hD : Dsk w gD gS gM n S L t) (h : SlotAt s p) (hp : p < n) (ha : t.ans ≠ 0) : Calls Try.prog 10 #[.pointer (some ⟨gD, 0, none⟩), .int .i64 s, .slice A 64 c] w (FBadPost w gD gS gM n S L t (.int .i64 t.ans)) := by
  have HP := Lib.hid (slotAt_yes s p w h)
  have HR := Lib.hid (dwrite_bad gD gS gM n S L t p A c w hD hp ha)
  clear h hD hp ha
  go_enter Try.func10, Try.ntmps10
  go_wp2_with fail
  refine HP.out.mono ?_
  rintro e w1 ⟨rfl, rfl⟩
  go_wp2_with fail
  refine HR.out.mono ?_
  rintro e w2 ⟨rfl, h1, h2, -⟩
  go_wp2
  go_ret
  exact ⟨rfl, h1, h2⟩
set_option maxRecDepth 20000 in
theorem fwslot_yes (v : Value) (xs : List Nat) (s : Int) (p : Nat) (hD : Dsk w gD gS gM n S L t) (h : SlotAt s p) (hp : p < n) (ha : t.ans = 0) (hx : ∀ w', Only gD w w' → ∃ B, Bts w' B v xs ∧ B ≤ w.heap.size) (hl : xs.length = 64) : Calls Try.prog 10 #[.pointer (some ⟨gD, 0, none⟩), .int .i64 s, v] w (FWritePost w gD gS gM n S (upd L p (some xs)) t) := by
  have HP := Lib.hid (slotAt_yes s p w h)
  have HR := Lib.hid (dwrite_yes gD gS gM n S L t p v xs w hD hp ha hx hl)
  obtain ⟨A, l, c, rfl, -⟩ : ∃ A l c, v = .slice A l c ∧ True := by
    obtain ⟨B, hb, -⟩ := hx w (Only.refl _ _)
    obtain ⟨A, l, c, hv, -⟩ := hb
    exact ⟨A, l, c, hv, trivial⟩
  clear h hD hp ha hx hl
  go_enter Try.func10, Try.ntmps10
  go_wp2_with fail
  refine HP.out.mono ?_
  rintro e w1 ⟨rfl, rfl⟩
  go_wp2_with fail
  refine HR.out.mono ?_
  rintro e w2 hpost
  obtain ⟨rfl, h1, h2⟩ : e = .returned (.int .i64 0) ∧ Dsk w2 gD gS gM n S (upd L p (some xs)) t.next ∧ Turns (dk gD gS gM) w w2 := ⟨hpost.1, hpost.2.1, hpost.2.2.1⟩
  clear hpost
  go_wp2
  go_ret
  exact ⟨rfl, h1, h2⟩
end
end Go.Proofs.Ytggidgfmkidkjaa
