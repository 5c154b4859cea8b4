/-
  A round's last part in RamPlays: whether the act's frame is poisoned.
  Conditions: none beside what the rounds keep.
-/
import Derived.Test.YtlodeejeeldplaaPlayPre
namespace Go.Proofs.Ytlodeejeeldplaa
open Go.RowKit
set_option linter.unusedVariables false

/-- What it leaves. -/
def TailP (w0 : World) (v0 va : Value) (gL n k : Nat) (w : World) (a' : Act) (w' : World) : Prop :=
  PlayL0 a' v0 va (.pointer (some ⟨w0.heap.size + 1, 0, none⟩)) (.int .i64 n) (.pointer (some ⟨gL, 0, none⟩)) (.pointer (some ⟨gL + 1, 0, none⟩)) (.int .i64 k) ∧ w = w'

set_option maxRecDepth 100000 in
set_option maxHeartbeats 1600000 in
theorem tail_no (w0 : World) (v0 va : Value) (gL gA n k kk : Nat) (F : Nat → List Nat) (c : Nat → Nat) (x : ActD) (a : Act) (w : World)
    (h : PlayL2 a v0 va (.pointer (some ⟨w0.heap.size + 1, 0, none⟩)) (.int .i64 n) (.pointer (some ⟨gL, 0, none⟩)) (.pointer (some ⟨gL + 1, 0, none⟩)) (.int .i64 k) (.pointer (some ⟨gA, 0, none⟩)) (.bool false) (.int .i64 kk))
    (hs : St w0 gL n (k + 1) F c w) (hb : Blk w gA 33 #[.int .i64 x.what, .int .i64 x.f, .int .i64 x.at_, .int .i64 x.n, x.v]) (hf : x.f < 0 ∨ (n : Int) ≤ x.f) :
    Runs Try.prog cTail a w (TailP w0 v0 va gL n k w) := by
  obtain ⟨u, rfl⟩ := h.open_
  obtain ⟨wh, f, p, q, v, xs⟩ := x
  have hc1 : w.cell? ⟨gA, 1, none⟩ = some (.int .i64 f) := by rw [hb.cell]; rfl
  have HB := Lib.hid (bad_no _ _ _ _ _ f w hs.2.1 hf)
  clear hb hf hs
  unfold Runs
  conv => arg 2; whnf
  go_wp2_with fail
  refine HB.out.mono ?_
  rintro e w1 ⟨rfl, rfl⟩
  go_wp2
  exact ⟨⟨rfl, rfl, rfl, rfl, rfl, rfl, rfl, rfl, rfl⟩, rfl⟩

set_option maxRecDepth 100000 in
set_option maxHeartbeats 1600000 in
theorem tail_yes (w0 : World) (v0 va : Value) (gL gA n k kk : Nat) (F : Nat → List Nat) (c : Nat → Nat) (x : ActD) (a : Act) (w : World)
    (h : PlayL2 a v0 va (.pointer (some ⟨w0.heap.size + 1, 0, none⟩)) (.int .i64 n) (.pointer (some ⟨gL, 0, none⟩)) (.pointer (some ⟨gL + 1, 0, none⟩)) (.int .i64 k) (.pointer (some ⟨gA, 0, none⟩)) (.bool true) (.int .i64 kk))
    (hs : St w0 gL n (k + 1) F c w) (hb : Blk w gA 33 #[.int .i64 x.what, .int .i64 x.f, .int .i64 x.at_, .int .i64 x.n, x.v]) (hf : x.f = kk) (hkk : kk < n) :
    Runs Try.prog cTail a w (TailP w0 v0 va gL n k w) := by
  obtain ⟨u, rfl⟩ := h.open_
  obtain ⟨wh, f, p, q, v, xs⟩ := x
  obtain rfl : f = kk := hf
  have hc1 : w.cell? ⟨gA, 1, none⟩ = some (.int .i64 (kk : Int)) := by rw [hb.cell]; rfl
  have HB := Lib.hid (bad_yes _ _ _ _ _ kk w hs.2.1 hkk)
  have hn := hs.2.1.few
  have hc2 := hs.2.2.2.1.cell (k := kk) (by omega)
  have t1 : (0 : Int) ≤ (kk : Int) := by omega
  have t2 : (kk : Int) < 1024 := by omega
  clear hb hs
  by_cases hz : 0 < c kk
  · have HB2 := Lib.hid (show Calls Try.prog 18 #[.pointer (some ⟨w0.heap.size + 1, 0, none⟩), .int .i64 kk] w fun e w' => e = .returned (.bool true) ∧ w = w' by
      have := HB.out
      rw [decide_eq_true hz] at this
      exact this)
    have t3 : decide (0 < c kk) = true := decide_eq_true hz
    obtain ⟨y, hy⟩ : ∃ y, y = c kk := ⟨_, rfl⟩
    rw [← hy] at hc2 t3
    clear HB hy hz
    unfold Runs
    conv => arg 2; whnf
    go_wp2_with fail
    refine HB2.out.mono ?_
    rintro e w1 ⟨rfl, rfl⟩
    go_wp2
    exact ⟨⟨rfl, rfl, rfl, rfl, rfl, rfl, rfl, rfl, rfl⟩, rfl⟩
  · have HB2 := Lib.hid (show Calls Try.prog 18 #[.pointer (some ⟨w0.heap.size + 1, 0, none⟩), .int .i64 kk] w fun e w' => e = .returned (.bool false) ∧ w = w' by
      have := HB.out
      rw [decide_eq_false hz] at this
      exact this)
    have hc3 : w.cell? ⟨gL + 1, kk, none⟩ = some (.int .i64 0) := by
      rw [show c kk = 0 by omega] at hc2
      exact hc2
    clear HB hc2 hz
    unfold Runs
    conv => arg 2; whnf
    go_wp2_with fail
    refine HB2.out.mono ?_
    rintro e w1 ⟨rfl, rfl⟩
    go_wp2
    exact ⟨⟨rfl, rfl, rfl, rfl, rfl, rfl, rfl, rfl, rfl⟩, rfl⟩

theorem tail_any (w0 : World) (v0 va : Value) (gL gA n k kk : Nat) (th : Bool) (F : Nat → List Nat) (c : Nat → Nat) (x : ActD) (a : Act) (w : World)
    (h : PlayL2 a v0 va (.pointer (some ⟨w0.heap.size + 1, 0, none⟩)) (.int .i64 n) (.pointer (some ⟨gL, 0, none⟩)) (.pointer (some ⟨gL + 1, 0, none⟩)) (.int .i64 k) (.pointer (some ⟨gA, 0, none⟩)) (.bool th) (.int .i64 kk))
    (hs : St w0 gL n (k + 1) F c w) (hb : Blk w gA 33 #[.int .i64 x.what, .int .i64 x.f, .int .i64 x.at_, .int .i64 x.n, x.v]) (ht : There x.f n th kk) :
    Runs Try.prog cTail a w (TailP w0 v0 va gL n k w) := by
  rcases ht with ⟨rfl, h1, h2⟩ | ⟨rfl, rfl, h1⟩
  · exact tail_yes w0 v0 va gL gA n k kk F c x a w h hs hb h1 h2
  · exact tail_no w0 v0 va gL gA n k 0 F c x a w h hs hb h1
end Go.Proofs.Ytlodeejeeldplaa
