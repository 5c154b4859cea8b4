/-
  The contract of the document's own Run: the first run of an order, or none.
  Conditions: the list lies in memory, and has at most 1,024 cells.
-/
import Derived.Test.YtfnegbcpiejdaaaRunP
import Derived.Test.YtfnegbcpiejdaaaProg
import Derived.Test.YtfnegbcpiejdaaaBas
import Derived.Deep.LoopGhost
namespace Go.Proofs.Ytfnegbcpiejdaaa
open Go.RowKit
set_option linter.unusedVariables false

theorem whole_succ {l : List Bool} {f k : Nat} (hf : f ≤ k) : (∀ j, f ≤ j → j < k + 1 → l.getD j false = true) ↔ ((∀ j, f ≤ j → j < k → l.getD j false = true) ∧ l.getD k false = true) := by
  constructor
  · intro h
    exact ⟨fun j h1 h2 => h j h1 (by omega), h k hf (by omega)⟩
  · rintro ⟨h1, h2⟩ j k1 k2
    by_cases e : j = k
    · rw [e]; exact h2
    · exact h1 j k1 (by omega)
set_option maxRecDepth 20000 in
set_option maxHeartbeats 400000 in
theorem refRun_none (A : Option Addr) (n c : Nat) (l : List Bool) (o a b : Int) (w : World) (h : o < 0 ∨ 5 < o) :
    Calls Try.prog 32 #[.slice A n c, .int .i64 o, .int .i64 a, .int .i64 b] w fun e w' => ∃ r, e = .returned (runV r) ∧ RunIs l o a b r ∧ w = w' := by
  by_cases h1 : o < 0
  · have d1 : decide (o < 0) = true := decide_eq_true h1
    go_enter Try.func32, Try.ntmps32
    go_wp2
    go_ret2
    exact ⟨none, rfl, .inl h1, rfl⟩
  · have d1 : decide (o < 0) = false := decide_eq_false h1
    have d2 : decide (5 < o) = true := decide_eq_true (by omega)
    have h5 : 5 < o := by omega
    go_enter Try.func32, Try.ntmps32
    go_wp2
    go_ret2
    exact ⟨none, rfl, .inr (.inl h5), rfl⟩
set_option maxRecDepth 20000 in
set_option maxHeartbeats 1600000 in
theorem refRun_0 (g n c : Nat) (l : List Bool) (a b : Int) (w : World) (hl : l.length = n) (hn : n ≤ 1024) (hnc : n ≤ c) (hc : ∀ j, j < n → w.cell? ⟨g, j, none⟩ = some (.bool (l.getD j false))) :
    Calls Try.prog 32 #[.slice (some ⟨g, 0, none⟩) n c, .int .i64 0, .int .i64 a, .int .i64 b] w fun e w' => ∃ r, e = .returned (runV r) ∧ RunIs l 0 a b r ∧ w = w' := by
  have HC := Lib.hid hc
  have HL := Lib.hid hl
  clear hc
  go_enter Try.func32, Try.ntmps32
  go_wp2_with fail
  go_loopg [11] (n + 64) (fun gg s11 wx => ∃ f : Nat, f + gg = n + 64 ∧ s11 = .int .i64 (f : Int) ∧ f % 1 = 0 ∧ (∀ x, x < f → ¬ RunAt l 0 a b x) ∧ wx = w)
  case atStart => exact ⟨0, by omega, rfl, rfl, fun x hx => absurd hx (by omega), rfl⟩
  case round =>
    obtain ⟨f, hfg, rfl, hm, hb, hw⟩ := hrel
    obtain rfl : w = wr := hw.symm
    have HM := Lib.hid hm
    have HB := Lib.hid hb
    clear hm hb
    by_cases hfs : f + 1 ≤ n
    · have t1 : decide ((f : Int) + 1 ≤ (n : Int)) = true := decide_eq_true (by omega)
      obtain ⟨k0, hk0⟩ : ∃ k0 : Bool, k0 = (decide (a ≤ (f : Int)) && decide ((f : Int) + 1 ≤ b)) := ⟨_, rfl⟩
      have HK0 := Lib.hid hk0
      obtain ⟨t2, t2'⟩ : ∃ t : Bool, decide (a ≤ (f : Int)) = t := ⟨_, rfl⟩
      obtain ⟨t3, t3'⟩ : ∃ t : Bool, decide ((f : Int) + 1 ≤ b) = t := ⟨_, rfl⟩
      have HKK := Lib.hid (show k0 = (t2 && t3) from by rw [hk0, t2', t3'])
      obtain ⟨G, rfl⟩ : ∃ G, G = gk := ⟨_, rfl⟩
      clear hk0
      cases t2 <;> cases t3
      all_goals
        go_wp2_with fail
        go_loopg [12, 13] 1 (fun gi s12 s13 wy => ∃ (k : Nat) (ok : Bool), f ≤ k ∧ k + gi = f + 1 ∧ s13 = .int .i64 (k : Int) ∧ s12 = .bool ok ∧ (ok = true ↔ k0 = true ∧ ∀ j, f ≤ j → j < k → l.getD j false = true) ∧ wy = w)
        case atStart => exact ⟨f, k0, Nat.le_refl _, rfl, rfl, by rw [HKK.out]; rfl, ⟨fun h => ⟨h, fun j h1 h2 => absurd h2 (by omega)⟩, fun h => h.1⟩, rfl⟩
        case round =>
          obtain ⟨k, ok, hfk, hkg, rfl, rfl, hok, hw⟩ := hrel
          obtain rfl : w = wr := hw.symm
          have HOK := Lib.hid hok
          clear hok
          by_cases hk : k < f + 1
          · have t4 : decide ((k : Int) < (f : Int) + 1) = true := decide_eq_true (by omega)
            have t5 : (k : Int) < (n : Int) := by omega
            have t6 : (0 : Int) ≤ (k : Int) := by omega
            have hcell := HC.out k (by omega)
            obtain ⟨y, hy⟩ : ∃ y, y = l.getD k false := ⟨_, rfl⟩
            rw [← hy] at hcell
            have HY := Lib.hid hy
            have HW := Lib.hid (whole_succ (l := l) hfk)
            clear hy
            cases ok with
            | true =>
              obtain ⟨h1, h2⟩ := HOK.out.1 rfl
              have HA1 := Lib.hid h1
              have HA2 := Lib.hid h2
              clear HOK h1 h2
              go_wp2_with fail
              go_roundg (f + 1 - (k + 1))
              case measure => omega
              case rel => exact ⟨k + 1, y, by omega, by omega, by go_num, rfl, ⟨fun e => ⟨HA1.out, HW.out.2 ⟨HA2.out, by rw [← HY.out]; exact e⟩⟩, fun h => by rw [HY.out]; exact (HW.out.1 h.2).2⟩, rfl⟩
            | false =>
              have HA1 := Lib.hid (show ¬ (k0 = true ∧ ∀ j, f ≤ j → j < k → l.getD j false = true) from fun h => by have := HOK.out.2 h; cases this)
              clear HOK
              go_wp2_with fail
              go_roundg (f + 1 - (k + 1))
              case measure => omega
              case rel => exact ⟨k + 1, false, by omega, by omega, by go_num, rfl, ⟨fun e => (by cases e), fun h => absurd ⟨h.1, (HW.out.1 h.2).1⟩ HA1.out⟩, rfl⟩
          · obtain rfl : k = f + 1 := by omega
            have t4 : decide (((f + 1 : Nat) : Int) < (f : Int) + 1) = false := decide_eq_false (by omega)
            have HIS := Lib.hid (show ok = true ↔ RunAt l 0 a b f from by
              rw [HOK.out, HK0.out, Bool.and_eq_true, decide_eq_true_iff, decide_eq_true_iff]
              constructor
              · rintro ⟨⟨h1, h2⟩, h3⟩
                exact ⟨HM.out, by rw [HL.out]; exact hfs, h1, by simpa using h2, h3⟩
              · rintro ⟨_, _, h1, h2, h3⟩
                exact ⟨⟨h1, by simpa using h2⟩, h3⟩)
            cases ok with
            | true =>
              have HRA := Lib.hid (HIS.out.1 rfl)
              clear HIS HOK
              go_wp2
              go_ret2
              exact ⟨some f, rfl, ⟨by omega, by omega, HRA.out, HB.out⟩, rfl⟩
            | false =>
              have HRA := Lib.hid (show ¬ RunAt l 0 a b f from fun h => by have := HIS.out.2 h; cases this)
              clear HIS HOK
              go_wp2_with fail
              go_roundg (G - 1)
              case measure => omega
              case rel => exact ⟨f + 1, by omega, by go_num, by have := HM.out; omega, next_run rfl (by omega) HM.out HB.out HRA.out, rfl⟩
    · have t1 : decide ((f : Int) + 1 ≤ (n : Int)) = false := decide_eq_false (by omega)
      go_wp2
      go_ret2
      refine ⟨none, rfl, .inr (.inr fun x hx => ?_), rfl⟩
      by_cases c : x < f
      · exact HB.out x c hx
      · have h2 := hx.2.1
        rw [HL.out] at h2
        have h3 : x + 1 ≤ n := h2
        omega
set_option maxRecDepth 20000 in
set_option maxHeartbeats 1600000 in
theorem refRun_1 (g n c : Nat) (l : List Bool) (a b : Int) (w : World) (hl : l.length = n) (hn : n ≤ 1024) (hnc : n ≤ c) (hc : ∀ j, j < n → w.cell? ⟨g, j, none⟩ = some (.bool (l.getD j false))) :
    Calls Try.prog 32 #[.slice (some ⟨g, 0, none⟩) n c, .int .i64 1, .int .i64 a, .int .i64 b] w fun e w' => ∃ r, e = .returned (runV r) ∧ RunIs l 1 a b r ∧ w = w' := by
  have HC := Lib.hid hc
  have HL := Lib.hid hl
  clear hc
  go_enter Try.func32, Try.ntmps32
  go_wp2_with fail
  go_loopg [11] (n + 64) (fun gg s11 wx => ∃ f : Nat, f + gg = n + 64 ∧ s11 = .int .i64 (f : Int) ∧ f % 2 = 0 ∧ (∀ x, x < f → ¬ RunAt l 1 a b x) ∧ wx = w)
  case atStart => exact ⟨0, by omega, rfl, rfl, fun x hx => absurd hx (by omega), rfl⟩
  case round =>
    obtain ⟨f, hfg, rfl, hm, hb, hw⟩ := hrel
    obtain rfl : w = wr := hw.symm
    have HM := Lib.hid hm
    have HB := Lib.hid hb
    clear hm hb
    by_cases hfs : f + 2 ≤ n
    · have t1 : decide ((f : Int) + 2 ≤ (n : Int)) = true := decide_eq_true (by omega)
      obtain ⟨k0, hk0⟩ : ∃ k0 : Bool, k0 = (decide (a ≤ (f : Int)) && decide ((f : Int) + 2 ≤ b)) := ⟨_, rfl⟩
      have HK0 := Lib.hid hk0
      obtain ⟨t2, t2'⟩ : ∃ t : Bool, decide (a ≤ (f : Int)) = t := ⟨_, rfl⟩
      obtain ⟨t3, t3'⟩ : ∃ t : Bool, decide ((f : Int) + 2 ≤ b) = t := ⟨_, rfl⟩
      have HKK := Lib.hid (show k0 = (t2 && t3) from by rw [hk0, t2', t3'])
      obtain ⟨G, rfl⟩ : ∃ G, G = gk := ⟨_, rfl⟩
      clear hk0
      cases t2 <;> cases t3
      all_goals
        go_wp2_with fail
        go_loopg [12, 13] 2 (fun gi s12 s13 wy => ∃ (k : Nat) (ok : Bool), f ≤ k ∧ k + gi = f + 2 ∧ s13 = .int .i64 (k : Int) ∧ s12 = .bool ok ∧ (ok = true ↔ k0 = true ∧ ∀ j, f ≤ j → j < k → l.getD j false = true) ∧ wy = w)
        case atStart => exact ⟨f, k0, Nat.le_refl _, rfl, rfl, by rw [HKK.out]; rfl, ⟨fun h => ⟨h, fun j h1 h2 => absurd h2 (by omega)⟩, fun h => h.1⟩, rfl⟩
        case round =>
          obtain ⟨k, ok, hfk, hkg, rfl, rfl, hok, hw⟩ := hrel
          obtain rfl : w = wr := hw.symm
          have HOK := Lib.hid hok
          clear hok
          by_cases hk : k < f + 2
          · have t4 : decide ((k : Int) < (f : Int) + 2) = true := decide_eq_true (by omega)
            have t5 : (k : Int) < (n : Int) := by omega
            have t6 : (0 : Int) ≤ (k : Int) := by omega
            have hcell := HC.out k (by omega)
            obtain ⟨y, hy⟩ : ∃ y, y = l.getD k false := ⟨_, rfl⟩
            rw [← hy] at hcell
            have HY := Lib.hid hy
            have HW := Lib.hid (whole_succ (l := l) hfk)
            clear hy
            cases ok with
            | true =>
              obtain ⟨h1, h2⟩ := HOK.out.1 rfl
              have HA1 := Lib.hid h1
              have HA2 := Lib.hid h2
              clear HOK h1 h2
              go_wp2_with fail
              go_roundg (f + 2 - (k + 1))
              case measure => omega
              case rel => exact ⟨k + 1, y, by omega, by omega, by go_num, rfl, ⟨fun e => ⟨HA1.out, HW.out.2 ⟨HA2.out, by rw [← HY.out]; exact e⟩⟩, fun h => by rw [HY.out]; exact (HW.out.1 h.2).2⟩, rfl⟩
            | false =>
              have HA1 := Lib.hid (show ¬ (k0 = true ∧ ∀ j, f ≤ j → j < k → l.getD j false = true) from fun h => by have := HOK.out.2 h; cases this)
              clear HOK
              go_wp2_with fail
              go_roundg (f + 2 - (k + 1))
              case measure => omega
              case rel => exact ⟨k + 1, false, by omega, by omega, by go_num, rfl, ⟨fun e => (by cases e), fun h => absurd ⟨h.1, (HW.out.1 h.2).1⟩ HA1.out⟩, rfl⟩
          · obtain rfl : k = f + 2 := by omega
            have t4 : decide (((f + 2 : Nat) : Int) < (f : Int) + 2) = false := decide_eq_false (by omega)
            have HIS := Lib.hid (show ok = true ↔ RunAt l 1 a b f from by
              rw [HOK.out, HK0.out, Bool.and_eq_true, decide_eq_true_iff, decide_eq_true_iff]
              constructor
              · rintro ⟨⟨h1, h2⟩, h3⟩
                exact ⟨HM.out, by rw [HL.out]; exact hfs, h1, by simpa using h2, h3⟩
              · rintro ⟨_, _, h1, h2, h3⟩
                exact ⟨⟨h1, by simpa using h2⟩, h3⟩)
            cases ok with
            | true =>
              have HRA := Lib.hid (HIS.out.1 rfl)
              clear HIS HOK
              go_wp2
              go_ret2
              exact ⟨some f, rfl, ⟨by omega, by omega, HRA.out, HB.out⟩, rfl⟩
            | false =>
              have HRA := Lib.hid (show ¬ RunAt l 1 a b f from fun h => by have := HIS.out.2 h; cases this)
              clear HIS HOK
              go_wp2_with fail
              go_roundg (G - 2)
              case measure => omega
              case rel => exact ⟨f + 2, by omega, by go_num, by have := HM.out; omega, next_run rfl (by omega) HM.out HB.out HRA.out, rfl⟩
    · have t1 : decide ((f : Int) + 2 ≤ (n : Int)) = false := decide_eq_false (by omega)
      go_wp2
      go_ret2
      refine ⟨none, rfl, .inr (.inr fun x hx => ?_), rfl⟩
      by_cases c : x < f
      · exact HB.out x c hx
      · have h2 := hx.2.1
        rw [HL.out] at h2
        have h3 : x + 2 ≤ n := h2
        omega
set_option maxRecDepth 20000 in
set_option maxHeartbeats 1600000 in
theorem refRun_2 (g n c : Nat) (l : List Bool) (a b : Int) (w : World) (hl : l.length = n) (hn : n ≤ 1024) (hnc : n ≤ c) (hc : ∀ j, j < n → w.cell? ⟨g, j, none⟩ = some (.bool (l.getD j false))) :
    Calls Try.prog 32 #[.slice (some ⟨g, 0, none⟩) n c, .int .i64 2, .int .i64 a, .int .i64 b] w fun e w' => ∃ r, e = .returned (runV r) ∧ RunIs l 2 a b r ∧ w = w' := by
  have HC := Lib.hid hc
  have HL := Lib.hid hl
  clear hc
  go_enter Try.func32, Try.ntmps32
  go_wp2_with fail
  go_loopg [11] (n + 64) (fun gg s11 wx => ∃ f : Nat, f + gg = n + 64 ∧ s11 = .int .i64 (f : Int) ∧ f % 4 = 0 ∧ (∀ x, x < f → ¬ RunAt l 2 a b x) ∧ wx = w)
  case atStart => exact ⟨0, by omega, rfl, rfl, fun x hx => absurd hx (by omega), rfl⟩
  case round =>
    obtain ⟨f, hfg, rfl, hm, hb, hw⟩ := hrel
    obtain rfl : w = wr := hw.symm
    have HM := Lib.hid hm
    have HB := Lib.hid hb
    clear hm hb
    by_cases hfs : f + 4 ≤ n
    · have t1 : decide ((f : Int) + 4 ≤ (n : Int)) = true := decide_eq_true (by omega)
      obtain ⟨k0, hk0⟩ : ∃ k0 : Bool, k0 = (decide (a ≤ (f : Int)) && decide ((f : Int) + 4 ≤ b)) := ⟨_, rfl⟩
      have HK0 := Lib.hid hk0
      obtain ⟨t2, t2'⟩ : ∃ t : Bool, decide (a ≤ (f : Int)) = t := ⟨_, rfl⟩
      obtain ⟨t3, t3'⟩ : ∃ t : Bool, decide ((f : Int) + 4 ≤ b) = t := ⟨_, rfl⟩
      have HKK := Lib.hid (show k0 = (t2 && t3) from by rw [hk0, t2', t3'])
      obtain ⟨G, rfl⟩ : ∃ G, G = gk := ⟨_, rfl⟩
      clear hk0
      cases t2 <;> cases t3
      all_goals
        go_wp2_with fail
        go_loopg [12, 13] 4 (fun gi s12 s13 wy => ∃ (k : Nat) (ok : Bool), f ≤ k ∧ k + gi = f + 4 ∧ s13 = .int .i64 (k : Int) ∧ s12 = .bool ok ∧ (ok = true ↔ k0 = true ∧ ∀ j, f ≤ j → j < k → l.getD j false = true) ∧ wy = w)
        case atStart => exact ⟨f, k0, Nat.le_refl _, rfl, rfl, by rw [HKK.out]; rfl, ⟨fun h => ⟨h, fun j h1 h2 => absurd h2 (by omega)⟩, fun h => h.1⟩, rfl⟩
        case round =>
          obtain ⟨k, ok, hfk, hkg, rfl, rfl, hok, hw⟩ := hrel
          obtain rfl : w = wr := hw.symm
          have HOK := Lib.hid hok
          clear hok
          by_cases hk : k < f + 4
          · have t4 : decide ((k : Int) < (f : Int) + 4) = true := decide_eq_true (by omega)
            have t5 : (k : Int) < (n : Int) := by omega
            have t6 : (0 : Int) ≤ (k : Int) := by omega
            have hcell := HC.out k (by omega)
            obtain ⟨y, hy⟩ : ∃ y, y = l.getD k false := ⟨_, rfl⟩
            rw [← hy] at hcell
            have HY := Lib.hid hy
            have HW := Lib.hid (whole_succ (l := l) hfk)
            clear hy
            cases ok with
            | true =>
              obtain ⟨h1, h2⟩ := HOK.out.1 rfl
              have HA1 := Lib.hid h1
              have HA2 := Lib.hid h2
              clear HOK h1 h2
              go_wp2_with fail
              go_roundg (f + 4 - (k + 1))
              case measure => omega
              case rel => exact ⟨k + 1, y, by omega, by omega, by go_num, rfl, ⟨fun e => ⟨HA1.out, HW.out.2 ⟨HA2.out, by rw [← HY.out]; exact e⟩⟩, fun h => by rw [HY.out]; exact (HW.out.1 h.2).2⟩, rfl⟩
            | false =>
              have HA1 := Lib.hid (show ¬ (k0 = true ∧ ∀ j, f ≤ j → j < k → l.getD j false = true) from fun h => by have := HOK.out.2 h; cases this)
              clear HOK
              go_wp2_with fail
              go_roundg (f + 4 - (k + 1))
              case measure => omega
              case rel => exact ⟨k + 1, false, by omega, by omega, by go_num, rfl, ⟨fun e => (by cases e), fun h => absurd ⟨h.1, (HW.out.1 h.2).1⟩ HA1.out⟩, rfl⟩
          · obtain rfl : k = f + 4 := by omega
            have t4 : decide (((f + 4 : Nat) : Int) < (f : Int) + 4) = false := decide_eq_false (by omega)
            have HIS := Lib.hid (show ok = true ↔ RunAt l 2 a b f from by
              rw [HOK.out, HK0.out, Bool.and_eq_true, decide_eq_true_iff, decide_eq_true_iff]
              constructor
              · rintro ⟨⟨h1, h2⟩, h3⟩
                exact ⟨HM.out, by rw [HL.out]; exact hfs, h1, by simpa using h2, h3⟩
              · rintro ⟨_, _, h1, h2, h3⟩
                exact ⟨⟨h1, by simpa using h2⟩, h3⟩)
            cases ok with
            | true =>
              have HRA := Lib.hid (HIS.out.1 rfl)
              clear HIS HOK
              go_wp2
              go_ret2
              exact ⟨some f, rfl, ⟨by omega, by omega, HRA.out, HB.out⟩, rfl⟩
            | false =>
              have HRA := Lib.hid (show ¬ RunAt l 2 a b f from fun h => by have := HIS.out.2 h; cases this)
              clear HIS HOK
              go_wp2_with fail
              go_roundg (G - 4)
              case measure => omega
              case rel => exact ⟨f + 4, by omega, by go_num, by have := HM.out; omega, next_run rfl (by omega) HM.out HB.out HRA.out, rfl⟩
    · have t1 : decide ((f : Int) + 4 ≤ (n : Int)) = false := decide_eq_false (by omega)
      go_wp2
      go_ret2
      refine ⟨none, rfl, .inr (.inr fun x hx => ?_), rfl⟩
      by_cases c : x < f
      · exact HB.out x c hx
      · have h2 := hx.2.1
        rw [HL.out] at h2
        have h3 : x + 4 ≤ n := h2
        omega
set_option maxRecDepth 20000 in
set_option maxHeartbeats 1600000 in
theorem refRun_3 (g n c : Nat) (l : List Bool) (a b : Int) (w : World) (hl : l.length = n) (hn : n ≤ 1024) (hnc : n ≤ c) (hc : ∀ j, j < n → w.cell? ⟨g, j, none⟩ = some (.bool (l.getD j false))) :
    Calls Try.prog 32 #[.slice (some ⟨g, 0, none⟩) n c, .int .i64 3, .int .i64 a, .int .i64 b] w fun e w' => ∃ r, e = .returned (runV r) ∧ RunIs l 3 a b r ∧ w = w' := by
  have HC := Lib.hid hc
  have HL := Lib.hid hl
  clear hc
  go_enter Try.func32, Try.ntmps32
  go_wp2_with fail
  go_loopg [11] (n + 64) (fun gg s11 wx => ∃ f : Nat, f + gg = n + 64 ∧ s11 = .int .i64 (f : Int) ∧ f % 8 = 0 ∧ (∀ x, x < f → ¬ RunAt l 3 a b x) ∧ wx = w)
  case atStart => exact ⟨0, by omega, rfl, rfl, fun x hx => absurd hx (by omega), rfl⟩
  case round =>
    obtain ⟨f, hfg, rfl, hm, hb, hw⟩ := hrel
    obtain rfl : w = wr := hw.symm
    have HM := Lib.hid hm
    have HB := Lib.hid hb
    clear hm hb
    by_cases hfs : f + 8 ≤ n
    · have t1 : decide ((f : Int) + 8 ≤ (n : Int)) = true := decide_eq_true (by omega)
      obtain ⟨k0, hk0⟩ : ∃ k0 : Bool, k0 = (decide (a ≤ (f : Int)) && decide ((f : Int) + 8 ≤ b)) := ⟨_, rfl⟩
      have HK0 := Lib.hid hk0
      obtain ⟨t2, t2'⟩ : ∃ t : Bool, decide (a ≤ (f : Int)) = t := ⟨_, rfl⟩
      obtain ⟨t3, t3'⟩ : ∃ t : Bool, decide ((f : Int) + 8 ≤ b) = t := ⟨_, rfl⟩
      have HKK := Lib.hid (show k0 = (t2 && t3) from by rw [hk0, t2', t3'])
      obtain ⟨G, rfl⟩ : ∃ G, G = gk := ⟨_, rfl⟩
      clear hk0
      cases t2 <;> cases t3
      all_goals
        go_wp2_with fail
        go_loopg [12, 13] 8 (fun gi s12 s13 wy => ∃ (k : Nat) (ok : Bool), f ≤ k ∧ k + gi = f + 8 ∧ s13 = .int .i64 (k : Int) ∧ s12 = .bool ok ∧ (ok = true ↔ k0 = true ∧ ∀ j, f ≤ j → j < k → l.getD j false = true) ∧ wy = w)
        case atStart => exact ⟨f, k0, Nat.le_refl _, rfl, rfl, by rw [HKK.out]; rfl, ⟨fun h => ⟨h, fun j h1 h2 => absurd h2 (by omega)⟩, fun h => h.1⟩, rfl⟩
        case round =>
          obtain ⟨k, ok, hfk, hkg, rfl, rfl, hok, hw⟩ := hrel
          obtain rfl : w = wr := hw.symm
          have HOK := Lib.hid hok
          clear hok
          by_cases hk : k < f + 8
          · have t4 : decide ((k : Int) < (f : Int) + 8) = true := decide_eq_true (by omega)
            have t5 : (k : Int) < (n : Int) := by omega
            have t6 : (0 : Int) ≤ (k : Int) := by omega
            have hcell := HC.out k (by omega)
            obtain ⟨y, hy⟩ : ∃ y, y = l.getD k false := ⟨_, rfl⟩
            rw [← hy] at hcell
            have HY := Lib.hid hy
            have HW := Lib.hid (whole_succ (l := l) hfk)
            clear hy
            cases ok with
            | true =>
              obtain ⟨h1, h2⟩ := HOK.out.1 rfl
              have HA1 := Lib.hid h1
              have HA2 := Lib.hid h2
              clear HOK h1 h2
              go_wp2_with fail
              go_roundg (f + 8 - (k + 1))
              case measure => omega
              case rel => exact ⟨k + 1, y, by omega, by omega, by go_num, rfl, ⟨fun e => ⟨HA1.out, HW.out.2 ⟨HA2.out, by rw [← HY.out]; exact e⟩⟩, fun h => by rw [HY.out]; exact (HW.out.1 h.2).2⟩, rfl⟩
            | false =>
              have HA1 := Lib.hid (show ¬ (k0 = true ∧ ∀ j, f ≤ j → j < k → l.getD j false = true) from fun h => by have := HOK.out.2 h; cases this)
              clear HOK
              go_wp2_with fail
              go_roundg (f + 8 - (k + 1))
              case measure => omega
              case rel => exact ⟨k + 1, false, by omega, by omega, by go_num, rfl, ⟨fun e => (by cases e), fun h => absurd ⟨h.1, (HW.out.1 h.2).1⟩ HA1.out⟩, rfl⟩
          · obtain rfl : k = f + 8 := by omega
            have t4 : decide (((f + 8 : Nat) : Int) < (f : Int) + 8) = false := decide_eq_false (by omega)
            have HIS := Lib.hid (show ok = true ↔ RunAt l 3 a b f from by
              rw [HOK.out, HK0.out, Bool.and_eq_true, decide_eq_true_iff, decide_eq_true_iff]
              constructor
              · rintro ⟨⟨h1, h2⟩, h3⟩
                exact ⟨HM.out, by rw [HL.out]; exact hfs, h1, by simpa using h2, h3⟩
              · rintro ⟨_, _, h1, h2, h3⟩
                exact ⟨⟨h1, by simpa using h2⟩, h3⟩)
            cases ok with
            | true =>
              have HRA := Lib.hid (HIS.out.1 rfl)
              clear HIS HOK
              go_wp2
              go_ret2
              exact ⟨some f, rfl, ⟨by omega, by omega, HRA.out, HB.out⟩, rfl⟩
            | false =>
              have HRA := Lib.hid (show ¬ RunAt l 3 a b f from fun h => by have := HIS.out.2 h; cases this)
              clear HIS HOK
              go_wp2_with fail
              go_roundg (G - 8)
              case measure => omega
              case rel => exact ⟨f + 8, by omega, by go_num, by have := HM.out; omega, next_run rfl (by omega) HM.out HB.out HRA.out, rfl⟩
    · have t1 : decide ((f : Int) + 8 ≤ (n : Int)) = false := decide_eq_false (by omega)
      go_wp2
      go_ret2
      refine ⟨none, rfl, .inr (.inr fun x hx => ?_), rfl⟩
      by_cases c : x < f
      · exact HB.out x c hx
      · have h2 := hx.2.1
        rw [HL.out] at h2
        have h3 : x + 8 ≤ n := h2
        omega
set_option maxRecDepth 20000 in
set_option maxHeartbeats 1600000 in
theorem refRun_4 (g n c : Nat) (l : List Bool) (a b : Int) (w : World) (hl : l.length = n) (hn : n ≤ 1024) (hnc : n ≤ c) (hc : ∀ j, j < n → w.cell? ⟨g, j, none⟩ = some (.bool (l.getD j false))) :
    Calls Try.prog 32 #[.slice (some ⟨g, 0, none⟩) n c, .int .i64 4, .int .i64 a, .int .i64 b] w fun e w' => ∃ r, e = .returned (runV r) ∧ RunIs l 4 a b r ∧ w = w' := by
  have HC := Lib.hid hc
  have HL := Lib.hid hl
  clear hc
  go_enter Try.func32, Try.ntmps32
  go_wp2_with fail
  go_loopg [11] (n + 64) (fun gg s11 wx => ∃ f : Nat, f + gg = n + 64 ∧ s11 = .int .i64 (f : Int) ∧ f % 16 = 0 ∧ (∀ x, x < f → ¬ RunAt l 4 a b x) ∧ wx = w)
  case atStart => exact ⟨0, by omega, rfl, rfl, fun x hx => absurd hx (by omega), rfl⟩
  case round =>
    obtain ⟨f, hfg, rfl, hm, hb, hw⟩ := hrel
    obtain rfl : w = wr := hw.symm
    have HM := Lib.hid hm
    have HB := Lib.hid hb
    clear hm hb
    by_cases hfs : f + 16 ≤ n
    · have t1 : decide ((f : Int) + 16 ≤ (n : Int)) = true := decide_eq_true (by omega)
      obtain ⟨k0, hk0⟩ : ∃ k0 : Bool, k0 = (decide (a ≤ (f : Int)) && decide ((f : Int) + 16 ≤ b)) := ⟨_, rfl⟩
      have HK0 := Lib.hid hk0
      obtain ⟨t2, t2'⟩ : ∃ t : Bool, decide (a ≤ (f : Int)) = t := ⟨_, rfl⟩
      obtain ⟨t3, t3'⟩ : ∃ t : Bool, decide ((f : Int) + 16 ≤ b) = t := ⟨_, rfl⟩
      have HKK := Lib.hid (show k0 = (t2 && t3) from by rw [hk0, t2', t3'])
      obtain ⟨G, rfl⟩ : ∃ G, G = gk := ⟨_, rfl⟩
      clear hk0
      cases t2 <;> cases t3
      all_goals
        go_wp2_with fail
        go_loopg [12, 13] 16 (fun gi s12 s13 wy => ∃ (k : Nat) (ok : Bool), f ≤ k ∧ k + gi = f + 16 ∧ s13 = .int .i64 (k : Int) ∧ s12 = .bool ok ∧ (ok = true ↔ k0 = true ∧ ∀ j, f ≤ j → j < k → l.getD j false = true) ∧ wy = w)
        case atStart => exact ⟨f, k0, Nat.le_refl _, rfl, rfl, by rw [HKK.out]; rfl, ⟨fun h => ⟨h, fun j h1 h2 => absurd h2 (by omega)⟩, fun h => h.1⟩, rfl⟩
        case round =>
          obtain ⟨k, ok, hfk, hkg, rfl, rfl, hok, hw⟩ := hrel
          obtain rfl : w = wr := hw.symm
          have HOK := Lib.hid hok
          clear hok
          by_cases hk : k < f + 16
          · have t4 : decide ((k : Int) < (f : Int) + 16) = true := decide_eq_true (by omega)
            have t5 : (k : Int) < (n : Int) := by omega
            have t6 : (0 : Int) ≤ (k : Int) := by omega
            have hcell := HC.out k (by omega)
            obtain ⟨y, hy⟩ : ∃ y, y = l.getD k false := ⟨_, rfl⟩
            rw [← hy] at hcell
            have HY := Lib.hid hy
            have HW := Lib.hid (whole_succ (l := l) hfk)
            clear hy
            cases ok with
            | true =>
              obtain ⟨h1, h2⟩ := HOK.out.1 rfl
              have HA1 := Lib.hid h1
              have HA2 := Lib.hid h2
              clear HOK h1 h2
              go_wp2_with fail
              go_roundg (f + 16 - (k + 1))
              case measure => omega
              case rel => exact ⟨k + 1, y, by omega, by omega, by go_num, rfl, ⟨fun e => ⟨HA1.out, HW.out.2 ⟨HA2.out, by rw [← HY.out]; exact e⟩⟩, fun h => by rw [HY.out]; exact (HW.out.1 h.2).2⟩, rfl⟩
            | false =>
              have HA1 := Lib.hid (show ¬ (k0 = true ∧ ∀ j, f ≤ j → j < k → l.getD j false = true) from fun h => by have := HOK.out.2 h; cases this)
              clear HOK
              go_wp2_with fail
              go_roundg (f + 16 - (k + 1))
              case measure => omega
              case rel => exact ⟨k + 1, false, by omega, by omega, by go_num, rfl, ⟨fun e => (by cases e), fun h => absurd ⟨h.1, (HW.out.1 h.2).1⟩ HA1.out⟩, rfl⟩
          · obtain rfl : k = f + 16 := by omega
            have t4 : decide (((f + 16 : Nat) : Int) < (f : Int) + 16) = false := decide_eq_false (by omega)
            have HIS := Lib.hid (show ok = true ↔ RunAt l 4 a b f from by
              rw [HOK.out, HK0.out, Bool.and_eq_true, decide_eq_true_iff, decide_eq_true_iff]
              constructor
              · rintro ⟨⟨h1, h2⟩, h3⟩
                exact ⟨HM.out, by rw [HL.out]; exact hfs, h1, by simpa using h2, h3⟩
              · rintro ⟨_, _, h1, h2, h3⟩
                exact ⟨⟨h1, by simpa using h2⟩, h3⟩)
            cases ok with
            | true =>
              have HRA := Lib.hid (HIS.out.1 rfl)
              clear HIS HOK
              go_wp2
              go_ret2
              exact ⟨some f, rfl, ⟨by omega, by omega, HRA.out, HB.out⟩, rfl⟩
            | false =>
              have HRA := Lib.hid (show ¬ RunAt l 4 a b f from fun h => by have := HIS.out.2 h; cases this)
              clear HIS HOK
              go_wp2_with fail
              go_roundg (G - 16)
              case measure => omega
              case rel => exact ⟨f + 16, by omega, by go_num, by have := HM.out; omega, next_run rfl (by omega) HM.out HB.out HRA.out, rfl⟩
    · have t1 : decide ((f : Int) + 16 ≤ (n : Int)) = false := decide_eq_false (by omega)
      go_wp2
      go_ret2
      refine ⟨none, rfl, .inr (.inr fun x hx => ?_), rfl⟩
      by_cases c : x < f
      · exact HB.out x c hx
      · have h2 := hx.2.1
        rw [HL.out] at h2
        have h3 : x + 16 ≤ n := h2
        omega
set_option maxRecDepth 20000 in
set_option maxHeartbeats 1600000 in
theorem refRun_5 (g n c : Nat) (l : List Bool) (a b : Int) (w : World) (hl : l.length = n) (hn : n ≤ 1024) (hnc : n ≤ c) (hc : ∀ j, j < n → w.cell? ⟨g, j, none⟩ = some (.bool (l.getD j false))) :
    Calls Try.prog 32 #[.slice (some ⟨g, 0, none⟩) n c, .int .i64 5, .int .i64 a, .int .i64 b] w fun e w' => ∃ r, e = .returned (runV r) ∧ RunIs l 5 a b r ∧ w = w' := by
  have HC := Lib.hid hc
  have HL := Lib.hid hl
  clear hc
  go_enter Try.func32, Try.ntmps32
  go_wp2_with fail
  go_loopg [11] (n + 64) (fun gg s11 wx => ∃ f : Nat, f + gg = n + 64 ∧ s11 = .int .i64 (f : Int) ∧ f % 32 = 0 ∧ (∀ x, x < f → ¬ RunAt l 5 a b x) ∧ wx = w)
  case atStart => exact ⟨0, by omega, rfl, rfl, fun x hx => absurd hx (by omega), rfl⟩
  case round =>
    obtain ⟨f, hfg, rfl, hm, hb, hw⟩ := hrel
    obtain rfl : w = wr := hw.symm
    have HM := Lib.hid hm
    have HB := Lib.hid hb
    clear hm hb
    by_cases hfs : f + 32 ≤ n
    · have t1 : decide ((f : Int) + 32 ≤ (n : Int)) = true := decide_eq_true (by omega)
      obtain ⟨k0, hk0⟩ : ∃ k0 : Bool, k0 = (decide (a ≤ (f : Int)) && decide ((f : Int) + 32 ≤ b)) := ⟨_, rfl⟩
      have HK0 := Lib.hid hk0
      obtain ⟨t2, t2'⟩ : ∃ t : Bool, decide (a ≤ (f : Int)) = t := ⟨_, rfl⟩
      obtain ⟨t3, t3'⟩ : ∃ t : Bool, decide ((f : Int) + 32 ≤ b) = t := ⟨_, rfl⟩
      have HKK := Lib.hid (show k0 = (t2 && t3) from by rw [hk0, t2', t3'])
      obtain ⟨G, rfl⟩ : ∃ G, G = gk := ⟨_, rfl⟩
      clear hk0
      cases t2 <;> cases t3
      all_goals
        go_wp2_with fail
        go_loopg [12, 13] 32 (fun gi s12 s13 wy => ∃ (k : Nat) (ok : Bool), f ≤ k ∧ k + gi = f + 32 ∧ s13 = .int .i64 (k : Int) ∧ s12 = .bool ok ∧ (ok = true ↔ k0 = true ∧ ∀ j, f ≤ j → j < k → l.getD j false = true) ∧ wy = w)
        case atStart => exact ⟨f, k0, Nat.le_refl _, rfl, rfl, by rw [HKK.out]; rfl, ⟨fun h => ⟨h, fun j h1 h2 => absurd h2 (by omega)⟩, fun h => h.1⟩, rfl⟩
        case round =>
          obtain ⟨k, ok, hfk, hkg, rfl, rfl, hok, hw⟩ := hrel
          obtain rfl : w = wr := hw.symm
          have HOK := Lib.hid hok
          clear hok
          by_cases hk : k < f + 32
          · have t4 : decide ((k : Int) < (f : Int) + 32) = true := decide_eq_true (by omega)
            have t5 : (k : Int) < (n : Int) := by omega
            have t6 : (0 : Int) ≤ (k : Int) := by omega
            have hcell := HC.out k (by omega)
            obtain ⟨y, hy⟩ : ∃ y, y = l.getD k false := ⟨_, rfl⟩
            rw [← hy] at hcell
            have HY := Lib.hid hy
            have HW := Lib.hid (whole_succ (l := l) hfk)
            clear hy
            cases ok with
            | true =>
              obtain ⟨h1, h2⟩ := HOK.out.1 rfl
              have HA1 := Lib.hid h1
              have HA2 := Lib.hid h2
              clear HOK h1 h2
              go_wp2_with fail
              go_roundg (f + 32 - (k + 1))
              case measure => omega
              case rel => exact ⟨k + 1, y, by omega, by omega, by go_num, rfl, ⟨fun e => ⟨HA1.out, HW.out.2 ⟨HA2.out, by rw [← HY.out]; exact e⟩⟩, fun h => by rw [HY.out]; exact (HW.out.1 h.2).2⟩, rfl⟩
            | false =>
              have HA1 := Lib.hid (show ¬ (k0 = true ∧ ∀ j, f ≤ j → j < k → l.getD j false = true) from fun h => by have := HOK.out.2 h; cases this)
              clear HOK
              go_wp2_with fail
              go_roundg (f + 32 - (k + 1))
              case measure => omega
              case rel => exact ⟨k + 1, false, by omega, by omega, by go_num, rfl, ⟨fun e => (by cases e), fun h => absurd ⟨h.1, (HW.out.1 h.2).1⟩ HA1.out⟩, rfl⟩
          · obtain rfl : k = f + 32 := by omega
            have t4 : decide (((f + 32 : Nat) : Int) < (f : Int) + 32) = false := decide_eq_false (by omega)
            have HIS := Lib.hid (show ok = true ↔ RunAt l 5 a b f from by
              rw [HOK.out, HK0.out, Bool.and_eq_true, decide_eq_true_iff, decide_eq_true_iff]
              constructor
              · rintro ⟨⟨h1, h2⟩, h3⟩
                exact ⟨HM.out, by rw [HL.out]; exact hfs, h1, by simpa using h2, h3⟩
              · rintro ⟨_, _, h1, h2, h3⟩
                exact ⟨⟨h1, by simpa using h2⟩, h3⟩)
            cases ok with
            | true =>
              have HRA := Lib.hid (HIS.out.1 rfl)
              clear HIS HOK
              go_wp2
              go_ret2
              exact ⟨some f, rfl, ⟨by omega, by omega, HRA.out, HB.out⟩, rfl⟩
            | false =>
              have HRA := Lib.hid (show ¬ RunAt l 5 a b f from fun h => by have := HIS.out.2 h; cases this)
              clear HIS HOK
              go_wp2_with fail
              go_roundg (G - 32)
              case measure => omega
              case rel => exact ⟨f + 32, by omega, by go_num, by have := HM.out; omega, next_run rfl (by omega) HM.out HB.out HRA.out, rfl⟩
    · have t1 : decide ((f : Int) + 32 ≤ (n : Int)) = false := decide_eq_false (by omega)
      go_wp2
      go_ret2
      refine ⟨none, rfl, .inr (.inr fun x hx => ?_), rfl⟩
      by_cases c : x < f
      · exact HB.out x c hx
      · have h2 := hx.2.1
        rw [HL.out] at h2
        have h3 : x + 32 ≤ n := h2
        omega
theorem refRun_any (g n c : Nat) (l : List Bool) (o a b : Int) (w : World) (hl : l.length = n) (hn : n ≤ 1024) (hnc : n ≤ c) (hc : ∀ j, j < n → w.cell? ⟨g, j, none⟩ = some (.bool (l.getD j false))) :
    Calls Try.prog 32 #[.slice (some ⟨g, 0, none⟩) n c, .int .i64 o, .int .i64 a, .int .i64 b] w fun e w' => ∃ r, e = .returned (runV r) ∧ RunIs l o a b r ∧ w = w' := by
  by_cases h : o < 0 ∨ 5 < o
  · exact refRun_none _ n c l o a b w h
  · have : o = 0 ∨ o = 1 ∨ o = 2 ∨ o = 3 ∨ o = 4 ∨ o = 5 := by omega
    rcases this with rfl | rfl | rfl | rfl | rfl | rfl
    · exact refRun_0 g n c l a b w hl hn hnc hc
    · exact refRun_1 g n c l a b w hl hn hnc hc
    · exact refRun_2 g n c l a b w hl hn hnc hc
    · exact refRun_3 g n c l a b w hl hn hnc hc
    · exact refRun_4 g n c l a b w hl hn hnc hc
    · exact refRun_5 g n c l a b w hl hn hnc hc
end Go.Proofs.Ytfnegbcpiejdaaa
