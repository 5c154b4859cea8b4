/-
  The contracts of ram's Zero, Poison, Copy and New, and of the document's Cut.
  Conditions: the memory is known whole.
-/
import Derived.Test.YtegoookllckhiaaRamB
import Derived.WalkLawsBesides
import Derived.Laws.MakeOwn
namespace Go.Proofs.Ytegoookllckhiaa
open Go.RowKit
set_option linter.unusedVariables false

section
variable {w : World} {gR gF n : Nat} {F : Nat → List Nat} {bad : Nat → Bool}
theorem Mem.there_ (h : Mem w gR gF n F bad) {f : Nat} (hf : f < n) : w.there gF (f * 65) 64 := by
  obtain ⟨cur, h1, h2, h3, h4, h5⟩ := h
  intro j hj
  obtain ⟨b1, b2, b3, b4⟩ := h5 f hf
  exact ⟨by rw [h2.cell, b3 j hj]; rfl, h2.frozen _⟩
theorem Mem.range_ (h : Mem w gR gF n F bad) {f : Nat} (hf : f < n) : w.rangeAt gF (f * 65) ((F f).map bv) := by
  obtain ⟨cur, h1, h2, h3, h4, h5⟩ := h
  obtain ⟨b1, b2, b3, b4⟩ := h5 f hf
  intro j v hv
  have hj : j < (F f).length := by
    have := (List.getElem?_eq_some_iff.1 hv).1
    simpa using this
  rw [h2.cell, b3 j (by omega)]
  simp [hj] at hv ⊢
  exact hv
/-- Bytes laid into a frame cell by cell. -/
theorem Mem.cells (h : Mem w gR gF n F bad) {f : Nat} {ys : List Nat} (hf : f < n) (hl : ys.length = 64) (hy : ∀ y ∈ ys, y < 256) :
    Mem (w.setCells gF (f * 65) (ys.map bv)) gR gF n (upd F f ys) bad ∧ Only gF w (w.setCells gF (f * 65) (ys.map bv)) := by
  have ho : Only gF w (w.setCells gF (f * 65) (ys.map bv)) := Only.setCells _ _ (Only.refl _ _)
  refine ⟨?_, ho⟩
  have h1 := h.bytes (a := 0) (ys := ys) hf (by omega) hy ho (fun cur hc hs => Blk.setCells _ _ hc (by simpa using hs))
  rw [over_all _ _ (by rw [h.long hf, hl])] at h1
  exact h1
theorem Mem.drew (h : Mem w gR gF n F bad) : Mem w.drew gR gF n F bad := h
theorem Mem.byte (h : Mem w gR gF n F bad) {f : Nat} (hf : f < n) : ∀ y ∈ F f, y < 256 := by
  obtain ⟨cur, h1, h2, h3, h4, h5⟩ := h
  exact (h5 f hf).2.1
end

set_option maxHeartbeats 400000 in
theorem zero_err (p : Option Addr) (f k : Int) (w : World) (hk : k ≠ 0) (h : Calls Try.prog 66 #[.pointer p, .int .i64 f, .int .i64 0, .int .i64 64] w fun e w' => e = .returned (.tuple #[.slice none 0 0, .int .i64 k]) ∧ w = w') :
    Calls Try.prog 49 #[.pointer p, .int .i64 f] w fun e w' => e = .returned (.int .i64 k) ∧ w = w' := by
  have H := Lib.hid h
  have t1 : (k != 0) = true := by rw [bne_iff_ne]; exact hk
  clear h hk
  go_enter Try.func49, Try.ntmps49
  go_wp2_with fail
  refine H.out.mono ?_
  rintro e w1 ⟨rfl, rfl⟩
  go_wp2
  go_ret
  exact ⟨rfl, rfl⟩

set_option maxHeartbeats 400000 in
theorem zero_yes (gR gF m : Nat) (F : Nat → List Nat) (bad : Nat → Bool) (f : Nat) (w : World) (h : Mem w gR gF m F bad) (hf : f < m) (hb : bad f = false) :
    Calls Try.prog 49 #[.pointer (some ⟨gR, 0, none⟩), .int .i64 f] w (TurnPost w gR gF m (upd F f zer) bad (.int .i64 0)) := by
  have HP := Lib.hid (piece_yes gR gF m F bad f 0 64 w h hf (by omega) hb)
  have hz := h.cells (ys := zer) hf zer_length zer_byte
  have hth := h.there_ hf
  obtain ⟨W, hW⟩ : ∃ W, W = w.setCells gF (f * 65) (zer.map bv) := ⟨_, rfl⟩
  have hcl : ∀ ty, (Builtin.clear_ #[112] ty #[.slice (some ⟨gF, f * 65, none⟩) 64 64]).run Try.prog w = .ok (.tuple #[]) W := fun ty => by
    rw [Lib.run_clear_slice w 112 5 ty (.int .u8 0) Try.underlying112 Try.zero8 rfl rfl gF (f * 65) 64 64 (by omega) (fun j hj => (hth j hj).1) (fun j hj => (hth j hj).2), hW, zer, List.map_replicate]
    rfl
  rw [← hW] at hz
  have HZ := Lib.hid hz
  clear hz h hb hth hW
  go_enter Try.func49, Try.ntmps49
  go_wp2_with fail
  refine HP.out.mono ?_
  rintro e w1 ⟨A, rfl, hA, rfl⟩
  obtain rfl := hA (by omega)
  clear hA
  go_wp2
  go_ret
  exact ⟨rfl, HZ.out.1, HZ.out.2⟩

set_option maxHeartbeats 400000 in
theorem poison_none (p : Option Addr) (f : Int) (w : World) (h : Calls Try.prog 42 #[.pointer p, .int .i64 f] w fun e w' => e = .returned (.bool false) ∧ w = w') :
    Calls Try.prog 22 #[.pointer p, .int .i64 f] w fun e w' => e = .returned (.bool false) ∧ w = w' := by
  have H := Lib.hid h
  clear h
  go_enter Try.func22, Try.ntmps22
  go_wp2_with fail
  refine H.out.mono ?_
  rintro e w1 ⟨rfl, rfl⟩
  go_wp2
  go_ret
  exact ⟨rfl, rfl⟩
set_option maxHeartbeats 400000 in
theorem poison_bad (gR gF m : Nat) (F : Nat → List Nat) (bad : Nat → Bool) (f : Nat) (w : World) (h : Mem w gR gF m F bad) (hf : f < m) (hb : bad f = true) :
    Calls Try.prog 22 #[.pointer (some ⟨gR, 0, none⟩), .int .i64 f] w fun e w' => e = .returned (.bool false) ∧ w = w' := by
  have HH := Lib.hid (has_yes gR gF m F bad f w h hf)
  have hc := h.head
  have hm := h.mark hf
  rw [hb] at hm
  clear h hb
  have t7 : (f : Int) < (m : Int) := by omega
  have t8 : (0 : Int) ≤ (f : Int) := by omega
  go_enter Try.func22, Try.ntmps22
  go_wp2_with fail
  refine HH.out.mono ?_
  rintro e w1 ⟨rfl, rfl⟩
  go_wp2
  go_ret
  exact ⟨rfl, rfl⟩
set_option maxHeartbeats 400000 in
theorem poison_yes (gR gF m : Nat) (F : Nat → List Nat) (bad : Nat → Bool) (f : Nat) (w : World) (h : Mem w gR gF m F bad) (hf : f < m) (hb : bad f = false) :
    Calls Try.prog 22 #[.pointer (some ⟨gR, 0, none⟩), .int .i64 f] w (TurnPost w gR gF m F (upd bad f true) (.bool true)) := by
  have HH := Lib.hid (has_yes gR gF m F bad f w h hf)
  have hc := h.head
  have hm := h.mark hf
  have HP := Lib.hid (h.poison hf)
  have hfz : w.frozen? ⟨gF, f * 65 + 64, none⟩ = false := by
    obtain ⟨cur, _, h2, _⟩ := h
    exact h2.frozen _
  rw [hb] at hm
  clear h hb
  have t7 : (f : Int) < (m : Int) := by omega
  have t8 : (0 : Int) ≤ (f : Int) := by omega
  go_enter Try.func22, Try.ntmps22
  go_wp2_with fail
  refine HH.out.mono ?_
  rintro e w1 ⟨rfl, rfl⟩
  go_wp2
  go_ret
  exact ⟨rfl, HP.out.1, HP.out.2⟩
end Go.Proofs.Ytegoookllckhiaa
