/-
  What Keys of a cache lets go of: its second closure, the library's IndexFunc and DeleteFunc over pages.
  Conditions: those that each line bears.
-/
import Derived.Test.YtcfjkppgfjlbbaaCaB
import Derived.Test.YtcfjkppgfjlbbaaKeE
namespace Go.Proofs.Ytcfjkppgfjlbbaa
open Go.RowKit
set_option linter.unusedVariables false

/-- A page of another file, where one is asked for. -/
def otherF (file : Int) (k : Pl) : Bool := decide (0 ≤ file) && decide (k.c ≠ file)
set_option maxRecDepth 20000 in
set_option maxHeartbeats 1000000 in
theorem clos2_any (bx : Nat) (file : Int) (x : Pl) (W : World) (hc : W.cell? ⟨bx, 0, none⟩ = some (.int .i64 file)) (hb : bx < W.heap.size) :
    Calls Try.prog 24 #[.agg #[.int .i64 x.c, .int .i64 x.g], .pointer (some ⟨bx, 0, none⟩)] W fun e w' => e = .returned (.bool (otherF file x)) ∧ Below W.heap.size W w' := by
  unfold otherF
  by_cases h : 0 ≤ file
  · have t : decide ((0 : Int) ≤ file) = true := decide_eq_true h
    rw [t, Bool.true_and]
    by_cases h2 : x.c = file
    · have t2 : (x.c != file) = false := by simp [h2]
      rw [show decide (x.c ≠ file) = false by simp [h2]]
      clear h2
      go_enter Try.func24, Try.ntmps24
      go_wp2
      go_ret
      exact ⟨rfl, belAl (Below.refl _ W) _⟩
    · have t2 : (x.c != file) = true := by simp [h2]
      rw [show decide (x.c ≠ file) = true by simp [h2]]
      clear h2
      go_enter Try.func24, Try.ntmps24
      go_wp2
      go_ret
      exact ⟨rfl, belAl (Below.refl _ W) _⟩
  · have t : decide ((0 : Int) ≤ file) = false := decide_eq_false h
    rw [t, Bool.false_and]
    have h' : file < 0 := by omega
    clear h
    go_enter Try.func24, Try.ntmps24
    go_wp2
    go_ret
    exact ⟨rfl, belAl (Below.refl _ W) _⟩
/-- Pages one behind the other, from place 2 i of block g on. -/
def RowAtK (W : World) (g : Nat) (i : Nat) (l : List Pl) : Prop := ∀ j, j < l.length → W.cell? ⟨g, (i + j) * 2, none⟩ = some (.int .i64 (l.getD j pl0).c) ∧ W.cell? ⟨g, (i + j) * 2 + 1, none⟩ = some (.int .i64 (l.getD j pl0).g)
set_option maxRecDepth 20000 in
set_option maxHeartbeats 1000000 in
theorem index_any (bx : Nat) (file : Int) (g n cap : Nat) (l : List Pl) (w : World) (hl : l.length = n) (hn : n ≤ 1000000) (hg : g < w.heap.size) (hr : RowAtK w g 0 l) (hc : w.cell? ⟨bx, 0, none⟩ = some (.int .i64 file)) (hb : bx < w.heap.size) :
    Calls Try.prog 29 #[.slice (some ⟨g, 0, none⟩) n cap, .func (.func 24) #[] #[.pointer (some ⟨bx, 0, none⟩)]] w fun e w' =>
      ∃ r : Int, e = .returned (.int .i64 r) ∧ Below w.heap.size w w' ∧ ((r = -1 ∧ ∀ x ∈ l, otherF file x = false) ∨ ∃ k : Nat, r = (k : Int) ∧ k < n ∧ (∀ j, j < k → otherF file (l.getD j pl0) = false) ∧ otherF file (l.getD k pl0) = true) := by
  go_enter Try.func29, Try.ntmps29
  have HR := Lib.hid hr
  have HC := Lib.hid hc
  have HL := Lib.hid hl
  clear hr hc hl
  go_wp2_with fail
  go_loopg [5, 8] n (fun gg _ s8 wr => ∃ i : Nat, i + gg = n ∧ s8 = .int .i64 (i : Int) ∧ Below w.heap.size w wr ∧ ∀ j, j < i → otherF file (l.getD j pl0) = false)
  case atStart => exact ⟨0, by omega, rfl, Below.refl _ _, fun j h => absurd h (Nat.not_lt_zero _)⟩
  case round =>
    obtain ⟨i, hig, rfl, hB, hno⟩ := hrel
    have HB := Lib.hid hB
    have HO := Lib.hid hno
    clear hB hno
    by_cases hlt : i < n
    · have t4 : decide ((i : Int) < (n : Int)) = true := decide_eq_true (by omega)
      have t5 : (i : Int) < (n : Int) := by omega
      have t6 : (0 : Int) ≤ (i : Int) := by omega
      obtain ⟨x, hx⟩ : ∃ x, x = l.getD i pl0 := ⟨_, rfl⟩
      obtain ⟨r0, r1⟩ := HR.out i (by rw [HL.out]; exact hlt)
      rw [← hx, Nat.zero_add] at r0 r1
      have d0 : wr.cell? ⟨g, i * 2, none⟩ = some (.int .i64 x.c) := (HB.out.cell hg).trans r0
      have d1 : wr.cell? ⟨g, i * 2 + 1, none⟩ = some (.int .i64 x.g) := (HB.out.cell hg).trans r1
      have cb : wr.cell? ⟨bx, 0, none⟩ = some (.int .i64 file) := (HB.out.cell hb).trans HC.out
      have PC := Lib.hid (clos2_any bx file x wr cb (Nat.lt_of_lt_of_le hb HB.out.size))
      have HX := Lib.hid hx
      clear r0 r1 cb hx
      cases ho : otherF file x with
      | true =>
        rw [ho] at PC
        go_wp2_with fail
        refine PC.out.mono ?_
        rintro e w2 ⟨rfl, hb2⟩
        go_wp2_with fail
        go_ret
        exact ⟨_, rfl, HB.out.trans (hb2.mono HB.out.size), .inr ⟨i, rfl, hlt, HO.out, by rw [← HX.out]; exact ho⟩⟩
      | false =>
        rw [ho] at PC
        go_wp2_with fail
        refine PC.out.mono ?_
        rintro e w2 ⟨rfl, hb2⟩
        have HB2 := Lib.hid (HB.out.trans (hb2.mono HB.out.size))
        clear hb2
        go_wp2_with fail
        go_roundg (n - (i + 1))
        case measure => omega
        case rel =>
          refine ⟨i + 1, by omega, by go_num, HB2.out, fun j hj => ?_⟩
          by_cases c : j = i
          · rw [c, ← HX.out]; exact ho
          · exact HO.out j (by omega)
    · obtain rfl : i = n := by omega
      have t4 : decide ((i : Int) < (i : Int)) = false := decide_eq_false (by omega)
      go_wp2_with fail
      go_ret
      refine ⟨-1, rfl, HB.out, .inl ⟨rfl, fun x hx => ?_⟩⟩
      obtain ⟨j, hj, rfl⟩ := List.getElem_of_mem hx
      have := HO.out j (by rw [← HL.out]; exact hj)
      rwa [List.getD_eq_getElem?_getD, List.getElem?_eq_getElem hj] at this
end Go.Proofs.Ytcfjkppgfjlbbaa
