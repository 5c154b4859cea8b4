/-
  LogNone answers true for any bytes and any number, and writes nothing that was there.
  Conditions: none beside the kinds' own ranges.
-/
import Derived.Test.YthoolcnecphihaaLogF
namespace Go.Proofs.Ythoolcnecphihaa
open Go.RowKit
set_option linter.unusedVariables false

set_option maxHeartbeats 400000 in
theorem logNone_long (A : Option Addr) (l c : Nat) (p : Int) (w : World) (h : 50 < l) :
    Calls Try.prog 6 #[.slice A l c, .int .u8 p] w fun e w' => e = .returned (.bool true) ∧ Below w.heap.size w w' := by
  have t1 : decide ((50 : Int) < (l : Int)) = true := decide_eq_true (by omega)
  clear h
  go_enter Try.func6, Try.ntmps6
  go_wp2_with fail
  refine (logAnswers_any _).mono ?_
  rintro e w1 ⟨rfl, hb⟩
  go_wp2
  go_ret
  exact ⟨rfl, hb⟩

/-- What the disk answers to its first Append, and what is still to come. -/
theorem none_first (a : Nat) (ha : a < 2) : ((⟨a, 1, false, 0, false⟩ : Tr).ans ≠ 0 ∧ (⟨a, 1, false, 0, false⟩ : Tr).ans = 6) ∨ ((⟨a, 1, false, 0, false⟩ : Tr).ans = 0 ∧ (⟨a, 1, false, 0, false⟩ : Tr).next.ans ≠ 0 ∧ (⟨a, 1, false, 0, false⟩ : Tr).next.ans = 6) := by
  match a, ha with
  | 0, _ => exact .inl ⟨by decide, by decide⟩
  | 1, _ => exact .inr ⟨by decide, by decide, by decide⟩
theorem fails_at (c : Nat) (f : Bool) (l : Nat) (d : Bool) (hf : f = false) (hd : d = false) (h : c = 0) : (⟨c, 1, f, l, d⟩ : Tr).ans = 6 := by
  subst hf hd h
  rfl

/-- What the middle of LogNone leaves. -/
def NoneAt (w : World) (wx : World) : Prop := ∃ S L t, Dsk wx (w.heap.size + 2) w.heap.size (w.heap.size + 1) 192 S L t ∧ t.fused = false ∧ t.down = false ∧ Below w.heap.size w wx

set_option maxRecDepth 20000 in
set_option maxHeartbeats 1600000 in
theorem logNone_any (v0 : Value) (xs : List Nat) (p : Nat) (w : World) (h0 : Bts w w.heap.size v0 xs) (hl : xs.length ≤ 50) (hp : p < 256) :
    Calls Try.prog 6 #[v0, .int .u8 (p : Int)] w fun e w' => e = .returned (.bool true) ∧ Below w.heap.size w w' := by
  have H0 := Lib.hid h0
  obtain ⟨A, l, c, rfl, e0, -⟩ := h0
  have HL := Lib.hid hl
  have t1 : decide ((50 : Int) < (l : Int)) = false := decide_eq_false (by omega)
  obtain ⟨a, ha, ha2⟩ : ∃ a : Nat, (p : Int) % 2 = (a : Int) ∧ a < 2 := ⟨p % 2, by omega, by omega⟩
  obtain ⟨q, hq, hq2⟩ : ∃ q : Nat, (p : Int) % 64 = (q : Int) ∧ q < 64 := ⟨p % 64, by omega, by omega⟩
  have HA := Lib.hid ha2
  have HQ := Lib.hid hq2
  clear hl e0 hp ha2 hq2
  go_enter Try.func6, Try.ntmps6
  go_wp2_with fail
  refine (replay_nil _ _).mono ?_
  rintro e w1 ⟨rfl, rfl⟩
  go_wp2_with fail
  refine (dnew_any 192 192 w (by unfold NearD; omega)).mono ?_
  rintro e w1 ⟨rfl, hd1, hb1, hz1⟩
  have HD1 := Lib.hid hd1
  have HN1 := Lib.hid hb1
  clear hd1 hb1 hz1
  go_wp2_with fail
  refine (fail_any _ _ _ _ _ _ _ a 1 _ HD1.out (by have := HA.out; omega) (by omega)).mono ?_
  rintro e w2 ⟨rfl, hd2, ho2⟩
  have HD2 := Lib.hid (show Dsk w2 (w.heap.size + 2) w.heap.size (w.heap.size + 1) 192 (fun _ => zer) (fun _ => none) ⟨a, 1, false, 0, false⟩ from hd2)
  have HN2 := Lib.hid ((show Turns (dk (w.heap.size + 2) w.heap.size (w.heap.size + 1)) w1 w2 from Turns.of_only ho2 (.inl rfl)).fresh_ HN1.out (Nat.le_refl _) (by omega) (Nat.le_refl _) (by omega))
  clear hd2 ho2
  go_wp2_with fail
  refine (append_any _ _ _ _ _ _ _ 0 0 _ xs _ w2 HD2.out (by omega) (H0.out.below HN2.out) HN2.out.size HL.out (by omega) (by omega)).mono ?_
  rintro e w3 hpost
  have hpost : e = .returned (.int .i64 6) ∧ NoneAt w w3 := by
    rcases none_first a HA.out with ⟨h1, h2⟩ | ⟨h1, h2, h3⟩ <;> rcases hpost with ⟨k1, k2, k3, k4⟩ | ⟨k1, k2, k3, k4, k5⟩ | ⟨k1, k2, k3, k4, k5⟩
    · refine ⟨by rw [k2, h2]; rfl, _, _, _, k3, ?_, ?_, k4.fresh_ HN2.out (Nat.le_refl _) (by omega) (Nat.le_refl _) (by omega)⟩ <;> (unfold Tr.next; rw [if_neg (by simp)])
    · exact absurd k1 h1
    · exact absurd k1 h1
    · exact absurd h1 k1
    · refine ⟨by rw [k3, h3]; rfl, _, _, _, k4, ?_, ?_, k5.fresh_ HN2.out (Nat.le_refl _) (by omega) (Nat.le_refl _) (by omega)⟩ <;> (unfold Tr.next; rw [if_neg (by simp), if_neg (by simp)])
    · exact absurd k2 h2
  obtain ⟨rfl, S3, L3, t3, hd3, hf3, hw3, hn3⟩ := hpost
  have HD3 := Lib.hid hd3
  have HN3 := Lib.hid hn3
  clear hd3 hn3
  go_wp2_with fail
  refine (fail_any _ _ _ _ _ _ _ q 1 _ HD3.out (by have := HQ.out; omega) (by omega)).mono ?_
  rintro e w4 ⟨rfl, hd4, ho4⟩
  have HD4 := Lib.hid hd4
  have HN4 := Lib.hid ((show Turns (dk (w.heap.size + 2) w.heap.size (w.heap.size + 1)) w3 w4 from Turns.of_only ho4 (.inl rfl)).fresh_ HN3.out (Nat.le_refl _) (by omega) (Nat.le_refl _) (by omega))
  have HF := Lib.hid (fun h : q = 0 => fails_at q t3.fused t3.left t3.down hf3 hw3 h)
  clear hd4 ho4 hf3 hw3
  go_wp2_with fail
  refine (replay_any _ _ _ _ _ _ _ 7 w4 HD4.out (by omega) (by omega)).mono ?_
  rintro e w5 hpost
  have hpost : ∃ v gk, e = .returned (.tuple #[v, .int .i64 gk]) ∧ Below w.heap.size w w5 ∧ (q = 0 → gk = 6) := by
    obtain ⟨m, h1, h2, h3⟩ := hpost
    have hbel := h2.fresh_ HN4.out (Nat.le_refl _) (by omega) (Nat.le_refl _) (by omega)
    have hm : q = 0 → m = 0 := by
      intro hq0
      rcases Nat.eq_zero_or_pos m with h | h
      · exact h
      · have h5 := (h1 0 h).2
        have h6 := HF.out hq0
        unfold tn at h5
        rw [h6] at h5
        exact absurd h5 (by decide)
    rcases h3 with ⟨h3, _, v, rfl, _⟩ | ⟨_, h3, _, _, v, rfl, _⟩ | ⟨_, _, _, rfl⟩
    · exact ⟨v, 0, rfl, hbel, fun h => by have := hm h; omega⟩
    · refine ⟨v, 0, rfl, hbel, fun h => ?_⟩
      obtain rfl := hm h
      have h6 := HF.out h
      unfold tn at h3
      rw [h6] at h3
      exact absurd h3 (by decide)
    · refine ⟨_, _, rfl, hbel, fun h => ?_⟩
      obtain rfl := hm h
      unfold tn
      rw [HF.out h]
      rfl
  obtain ⟨v5, g5, rfl, hn5, hg5⟩ := hpost
  have HN5 := Lib.hid hn5
  clear hn5
  go_wp2_with fail
  refine (logAnswers_any _).mono ?_
  rintro e w6 ⟨rfl, hb6⟩
  have HN6 := Lib.hid (HN5.out.trans (hb6.mono HN5.out.size))
  clear hb6
  by_cases hq0 : q = 0
  · have t2 : decide ((0 : Int) < (q : Int)) = false := decide_eq_false (by omega)
    obtain rfl := hg5 hq0
    clear hg5
    go_wp2_with fail
    refine (append_nil _ _ _ _ _ _).mono ?_
    rintro e w7 ⟨rfl, rfl⟩
    go_wp2
    go_ret
    exact ⟨by simp, HN6.out⟩
  · have t2 : decide ((0 : Int) < (q : Int)) = true := decide_eq_true (by omega)
    clear hg5
    go_wp2_with fail
    refine (append_nil _ _ _ _ _ _).mono ?_
    rintro e w7 ⟨rfl, rfl⟩
    go_wp2
    go_ret
    exact ⟨by simp, HN6.out⟩
end Go.Proofs.Ythoolcnecphihaa
