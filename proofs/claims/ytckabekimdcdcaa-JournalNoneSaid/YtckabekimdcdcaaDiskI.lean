/-
  The contracts of disk's Fail and Fuse at any whole numbers: what lies below 0 is 0.
  Conditions: the disk is known whole.
-/
import Derived.Test.YtckabekimdcdcaaDiskB
namespace Go.Proofs.Ytckabekimdcdcaa
open Go.RowKit
set_option linter.unusedVariables false

/-- A number, or 0 where it lies below. -/
def PosI (z : Int) (n : Nat) : Prop := (z < 0 ∧ n = 0) ∨ z = (n : Int)
theorem PosI.exists_ (z : Int) : ∃ n, PosI z n := by
  by_cases c : z < 0
  · exact ⟨0, .inl ⟨c, rfl⟩⟩
  · exact ⟨z.toNat, .inr (by omega)⟩
theorem PosI.le {z : Int} {n : Nat} (h : PosI z n) (hz : z ≤ 9223372036854775807) : n ≤ 9223372036854775807 := by
  rcases h with ⟨_, h⟩ | h <;> omega
set_option maxRecDepth 20000 in
set_option maxHeartbeats 800000 in
theorem fail_int (gD gS gM n : Nat) (S : Nat → List Nat) (L : Nat → Option (List Nat)) (t : Tr) (x y : Int) (a b : Nat) (w : World) (h : Dsk w gD gS gM n S L t) (hx : PosI x a) (hy : PosI y b) (ha : a ≤ 9223372036854775807) (hb : b ≤ 9223372036854775807) :
    Calls Try.prog 16 #[.pointer (some ⟨gD, 0, none⟩), .int .i64 x, .int .i64 y] w (TrPost w gD gS gM n S L ⟨a, b, t.fused, t.left, t.down⟩) := by
  have HD := Lib.hid h
  have f2 := h.1.frozen 2
  have f3 := h.1.frozen 3
  have c2 : w.cell? ⟨gD, 2, none⟩ = some (.int .i64 t.good) := h.cell 2
  have c3 : w.cell? ⟨gD, 3, none⟩ = some (.int .i64 t.failed) := h.cell 3
  rcases hx with ⟨hx, rfl⟩ | rfl
  · have d1 : decide (x < 0) = true := decide_eq_true hx
    have m1 : max x 0 = 0 := by omega
    rcases hy with ⟨hy, rfl⟩ | rfl
    · have d2 : decide (y < 0) = true := decide_eq_true hy
      have m2 : max y 0 = 0 := by omega
      clear h
      go_enter Try.func16, Try.ntmps16
      go_wp2
      go_end0
      exact ⟨rfl, HD.out.turned ⟨Nat.zero_le _, Nat.zero_le _, HD.out.2.1.2.2⟩ ((HD.out.1.set_ 2 (.int .i64 (0 : Nat))).set_ 3 (.int .i64 (0 : Nat))) (((Only.refl _ _).setCell _ _).setCell _ _), ((Only.refl _ _).setCell _ _).setCell _ _⟩
    · have d2 : decide ((b : Int) < 0) = false := decide_eq_false (by omega)
      clear h
      go_enter Try.func16, Try.ntmps16
      go_wp2
      go_end0
      exact ⟨rfl, HD.out.turned ⟨Nat.zero_le _, hb, HD.out.2.1.2.2⟩ ((HD.out.1.set_ 2 (.int .i64 (0 : Nat))).set_ 3 (.int .i64 (b : Nat))) (((Only.refl _ _).setCell _ _).setCell _ _), ((Only.refl _ _).setCell _ _).setCell _ _⟩
  · have d1 : decide ((a : Int) < 0) = false := decide_eq_false (by omega)
    rcases hy with ⟨hy, rfl⟩ | rfl
    · have d2 : decide (y < 0) = true := decide_eq_true hy
      have m2 : max y 0 = 0 := by omega
      clear h
      go_enter Try.func16, Try.ntmps16
      go_wp2
      go_end0
      exact ⟨rfl, HD.out.turned ⟨ha, Nat.zero_le _, HD.out.2.1.2.2⟩ ((HD.out.1.set_ 2 (.int .i64 (a : Nat))).set_ 3 (.int .i64 (0 : Nat))) (((Only.refl _ _).setCell _ _).setCell _ _), ((Only.refl _ _).setCell _ _).setCell _ _⟩
    · exact fail_any gD gS gM n S L t a b w HD.out ha hb
set_option maxRecDepth 20000 in
set_option maxHeartbeats 400000 in
theorem fuse_int (gD gS gM n : Nat) (S : Nat → List Nat) (L : Nat → Option (List Nat)) (t : Tr) (x : Int) (a : Nat) (w : World) (h : Dsk w gD gS gM n S L t) (hx : PosI x a) (ha : a ≤ 9223372036854775807) :
    Calls Try.prog 17 #[.pointer (some ⟨gD, 0, none⟩), .int .i64 x] w (TrPost w gD gS gM n S L ⟨t.good, t.failed, true, a, t.down⟩) := by
  rcases hx with ⟨hx, rfl⟩ | rfl
  · have HD := Lib.hid h
    have f4 := h.1.frozen 4
    have f5 := h.1.frozen 5
    have c4 : w.cell? ⟨gD, 4, none⟩ = some (.bool t.fused) := h.cell 4
    have c5 : w.cell? ⟨gD, 5, none⟩ = some (.int .i64 t.left) := h.cell 5
    have d1 : decide (x < 0) = true := decide_eq_true hx
    have d2 : max x 0 = 0 := by omega
    clear h
    go_enter Try.func17, Try.ntmps17
    go_wp2
    go_end0
    exact ⟨rfl, HD.out.turned ⟨HD.out.2.1.1, HD.out.2.1.2.1, Nat.zero_le _⟩ ((HD.out.1.set_ 4 (.bool true)).set_ 5 (.int .i64 (0 : Nat))) (((Only.refl _ _).setCell _ _).setCell _ _), ((Only.refl _ _).setCell _ _).setCell _ _⟩
  · exact fuse_any gD gS gM n S L t a w h ha
end Go.Proofs.Ytckabekimdcdcaa
