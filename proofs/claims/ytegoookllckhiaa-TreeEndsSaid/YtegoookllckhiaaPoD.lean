/-
  The contracts of a pool's Alloc, and of the run that it looks for.
  Conditions: those that each line bears.
-/
import Derived.Test.YtegoookllckhiaaPoC
namespace Go.Proofs.Ytegoookllckhiaa
open Go.RowKit
set_option linter.unusedVariables false

set_option maxRecDepth 20000
set_option maxHeartbeats 1600000
theorem firstF_ex (p : PS) (z sz : Nat) : ∃ r, FirstF p z sz r := by
  have key : ∀ n, (∃ f, f < n ∧ FirstF p z sz (some f)) ∨ ∀ g, g < n → ¬ RunF p z sz g := by
    intro n
    induction n with
    | zero => exact .inr fun g h => absurd h (by omega)
    | succ n ih =>
      rcases ih with ⟨f, h1, h2⟩ | ih
      · exact .inl ⟨f, by omega, h2⟩
      · by_cases c : RunF p z sz n
        · exact .inl ⟨n, by omega, c, ih⟩
        · refine .inr fun g hg => ?_
          by_cases e : g = n
          · rw [e]; exact c
          · exact ih g (by omega)
  rcases key 1024 with ⟨f, _, h⟩ | h
  · exact ⟨some f, h⟩
  · exact ⟨none, fun g hg => h g hg.2.1 hg⟩
theorem firstF_le {p : PS} {z o f : Nat} (ho : o ≤ 5) (h : FirstF p z (2 ^ o) (some f)) : f + 2 ^ o ≤ 1024 := by
  have := ((runAt_open ho).2 h.1).2.1
  rwa [openB_length] at this
theorem orun_any (g : Nat) (p : PS) (z : Nat) (o : Int) (w : World) (h : PoolAt w g p) (h0 : 0 ≤ o) (h5 : o ≤ 5) :
    Calls Try.prog 73 #[.pointer (some ⟨g, 0, none⟩), .int .i64 (z : Int)] w fun e w' => ∃ gS, e = .returned (.pointer (some ⟨gS, 0, none⟩)) ∧ (∀ (W : World), Below w'.heap.size w' W → Calls Try.prog 74 #[.pointer (some ⟨gS, 0, none⟩), .int .i64 o, .int .i64 0, .int .i64 1024] W fun e w2 => ∃ r, e = .returned (runV r) ∧ FirstF p z (2 ^ o.toNat) r ∧ Below w.heap.size w w2) ∧ Below w.heap.size w w' := by
  refine (open_any g p z w h).mono ?_
  rintro e w' ⟨gS, K, rfl, h1, h2, h3⟩
  refine ⟨gS, rfl, fun W hW => ?_, h3⟩
  refine (runs_run gS K _ o 0 1024 W (h1.fresh hW)).mono ?_
  rintro e w2 ⟨r, rfl, k1, k2⟩
  exact ⟨r, rfl, runIs_first h0 h5 k1, (h3.trans (hW.mono h3.size)).trans (k2.mono (Nat.le_trans h3.size hW.size))⟩
/-- What run answers. -/
def PrunPost (p : PS) (o : Int) (m : Bool) (w : World) (e : Ending) (w' : World) : Prop := ∃ r3 r2, FirstF p 3 (2 ^ o.toNat) r3 ∧ FirstF p 2 (2 ^ o.toNat) r2 ∧ e = .returned (runV (if m then r3.or r2 else r2)) ∧ Below w.heap.size w w'
theorem prun_any (g : Nat) (p : PS) (o : Int) (m : Bool) (w : World) (h : PoolAt w g p) (h0 : 0 ≤ o) (h5 : o ≤ 5) :
    Calls Try.prog 65 #[.pointer (some ⟨g, 0, none⟩), .int .i64 o, .bool m] w (PrunPost p o m w) := by
  have HP := Lib.hid h
  have H0 := Lib.hid h0
  have H5 := Lib.hid h5
  clear h h0 h5
  cases m with
  | false =>
    obtain ⟨r3, hr3⟩ := firstF_ex p 3 (2 ^ o.toNat)
    have HR3 := Lib.hid hr3
    clear hr3
    have OR := Lib.hid (orun_any g p 2 o w HP.out H0.out H5.out)
    go_enter Try.func65, Try.ntmps65
    go_wp2_with fail
    refine OR.out.mono ?_
    rintro e w1 ⟨gS, rfl, hrun, hb⟩
    have RN := Lib.hid (hrun w1 (Below.refl _ _))
    clear hrun hb
    go_wp2_with fail
    refine RN.out.mono ?_
    rintro e w2 ⟨r2, rfl, hr2, hb2⟩
    have HR2 := Lib.hid hr2
    have HB2 := Lib.hid hb2
    clear hr2 hb2
    unfold runV
    cases r2 with
    | none =>
      go_wp2
      go_ret2
      exact ⟨r3, none, HR3.out, HR2.out, rfl, HB2.out⟩
    | some f =>
      go_wp2
      go_ret2
      exact ⟨r3, some f, HR3.out, HR2.out, rfl, HB2.out⟩
  | true =>
    have OR := Lib.hid (orun_any g p 3 o w HP.out H0.out H5.out)
    go_enter Try.func65, Try.ntmps65
    go_wp2_with fail
    refine OR.out.mono ?_
    rintro e w1 ⟨gS, rfl, hrun, hb⟩
    have RN := Lib.hid (hrun w1 (Below.refl _ _))
    clear hrun hb
    go_wp2_with fail
    refine RN.out.mono ?_
    rintro e w2 ⟨r3, rfl, hr3, hb2⟩
    have HR3 := Lib.hid hr3
    have HB2 := Lib.hid hb2
    clear hr3 hb2
    cases r3 with
    | some f =>
      unfold runV
      obtain ⟨r2, hr2⟩ := firstF_ex p 2 (2 ^ o.toNat)
      have HR2 := Lib.hid hr2
      clear hr2
      go_wp2
      go_ret2
      exact ⟨some f, r2, HR3.out, HR2.out, rfl, HB2.out⟩
    | none =>
      have OR2 := Lib.hid (orun_any g p 2 o w2 (HP.out.below HB2.out HP.out.lt) H0.out H5.out)
      unfold runV
      go_wp2_with fail
      refine OR2.out.mono ?_
      rintro e w3 ⟨gS2, rfl, hrun, hb⟩
      have RN2 := Lib.hid (hrun w3 (Below.refl _ _))
      clear hrun hb
      go_wp2_with fail
      refine RN2.out.mono ?_
      rintro e w4 ⟨r2, rfl, hr2, hb4⟩
      have HR2 := Lib.hid hr2
      have HB4 := Lib.hid (HB2.out.trans (hb4.mono HB2.out.size))
      clear hr2 hb4
      unfold runV
      cases r2 with
      | none =>
        go_wp2
        go_ret2
        exact ⟨none, none, HR3.out, HR2.out, rfl, HB4.out⟩
      | some f =>
        go_wp2
        go_ret2
        exact ⟨none, some f, HR3.out, HR2.out, rfl, HB4.out⟩

/-! ### Alloc -/
theorem alloc_bad (g : Nat) (use o : Int) (m : Bool) (w : World) (h : (use < 2 ∨ 5 < use) ∨ (o < 0 ∨ 5 < o)) :
    Calls Try.prog 48 #[.pointer (some ⟨g, 0, none⟩), .int .i64 use, .int .i64 o, .bool m] w fun e w' => e = .returned (.tuple #[.int .i64 0, .int .i64 1]) ∧ w = w' := by
  have MG := Lib.hid (mayGive_any use w)
  by_cases h1 : 2 ≤ use ∧ use ≤ 5
  · rw [decide_eq_true h1] at MG
    by_cases h2 : o < 0
    · have d1 : decide (o < 0) = true := decide_eq_true h2
      clear h1 h
      go_enter Try.func48, Try.ntmps48
      go_wp2_with (go_at_call 64; refine MG.out.mono ?_; rintro e w' ⟨rfl, rfl⟩)
      go_ret2
      exact ⟨rfl, rfl⟩
    · have h3 : 5 < o := by omega
      have d1 : decide (o < 0) = false := decide_eq_false h2
      have d2 : decide (5 < o) = true := decide_eq_true h3
      clear h1 h
      go_enter Try.func48, Try.ntmps48
      go_wp2_with (go_at_call 64; refine MG.out.mono ?_; rintro e w' ⟨rfl, rfl⟩)
      go_ret2
      exact ⟨rfl, rfl⟩
  · rw [decide_eq_false h1] at MG
    clear h1 h
    go_enter Try.func48, Try.ntmps48
    go_wp2_with (go_at_call 64; refine MG.out.mono ?_; rintro e w' ⟨rfl, rfl⟩)
    go_ret2
    exact ⟨rfl, rfl⟩
theorem pool_alloc_nil (use o : Int) (m : Bool) (w : World) : Calls Try.prog 48 #[.pointer none, .int .i64 use, .int .i64 o, .bool m] w fun e w' => e = .returned (.tuple #[.int .i64 0, .int .i64 1]) ∧ w = w' := by
  go_enter Try.func48, Try.ntmps48
  go_wp2
  go_ret2
  exact ⟨rfl, rfl⟩
/-- What Alloc leaves: behind the run that was found, if one was. -/
def AllocTo (w : World) (g : Nat) (p : PS) (x : Nat) (N : Nat) (r : Option Nat) (e : Ending) (w' : World) : Prop :=
  match r with
  | some f => e = .returned (.tuple #[.int .i64 (f : Int), .int .i64 0]) ∧ PoolAt w' g ⟨spanU (fun _ => x) p.u f (f + N), p.z, p.i⟩ ∧ Turns (fun j => j = g) w w'
  | none => e = .returned (.tuple #[.int .i64 0, .int .i64 4]) ∧ PoolAt w' g p ∧ Turns (fun j => j = g) w w'
theorem alloc_0 (g : Nat) (p : PS) (x : Nat) (m : Bool) (r : Option Nat) (w : World) (h : PoolAt w g p) (hx : 2 ≤ x ∧ x ≤ 5) (hr : ∀ f, r = some f → f + 1 ≤ 1024)
    (hrun : Calls Try.prog 65 #[.pointer (some ⟨g, 0, none⟩), .int .i64 0, .bool m] w fun e w' => e = .returned (runV r) ∧ Below w.heap.size w w') :
    Calls Try.prog 48 #[.pointer (some ⟨g, 0, none⟩), .int .i64 (x : Int), .int .i64 0, .bool m] w (AllocTo w g p x 1 r) := by
  have MG := Lib.hid (mayGive_any (x : Int) w)
  rw [decide_eq_true (show 2 ≤ (x : Int) ∧ (x : Int) ≤ 5 from by omega)] at MG
  have HP := Lib.hid h
  have RN := Lib.hid hrun
  have HX := Lib.hid hx
  have HR := Lib.hid hr
  clear h hrun hx hr
  go_enter Try.func48, Try.ntmps48
  go_wp2_with (first | (go_at_call 64; refine MG.out.mono ?_; rintro e w' ⟨rfl, rfl⟩))
  refine RN.out.mono ?_
  rintro e w1 ⟨rfl, hb⟩
  have HB1 := Lib.hid hb
  have HP1 := Lib.hid (HP.out.below hb HP.out.lt)
  clear hb
  unfold runV
  cases r with
  | none =>
    go_wp2
    go_ret2
    exact ⟨rfl, HP1.out, Turns.of_below HB1.out (Nat.le_refl _)⟩
  | some f =>
    have hfl : f + 1 ≤ 1024 := HR.out f rfl
    go_wp2_with fail
    go_loopg [12, 39] 1 (fun gg _ s39 wx => ∃ i : Nat, i + gg = 1 ∧ s39 = .int .i64 (i : Int) ∧ PoolAt wx g ⟨spanU (fun _ => x) p.u f (f + i), p.z, p.i⟩ ∧ Turns (fun j => j = g) w wx)
    case atStart => exact ⟨0, by omega, rfl, by rw [Nat.add_zero, spanU_none]; exact HP1.out, Turns.of_below HB1.out (Nat.le_refl _)⟩
    case round =>
      obtain ⟨i, hig, rfl, hp5, ht5⟩ := hrel
      have HP5 := Lib.hid hp5
      have HT5 := Lib.hid ht5
      clear hp5 ht5
      by_cases hlt : i < 1
      · have t4 : decide ((i : Int) < 1) = true := decide_eq_true (by omega)
        have t5 : (i : Int) < 1 := by omega
        obtain ⟨q, hq⟩ : ∃ q, q = f + i := ⟨_, rfl⟩
        have hq2 : q < 1024 := by omega
        have hqs : (f : Int) + (i : Int) = (q : Int) := by omega
        have SP := Lib.hid (show spanU (fun _ => x) p.u f (f + (i + 1)) = (spanU (fun _ => x) p.u f (f + i)).set q x from by
          rw [hq, ← Nat.add_assoc]
          exact spanU_succ (fun _ => x) p.u f (f + i) (by omega) (by rw [HP.out.ok.u]; omega))
        have GV := Lib.hid (give_one g ⟨spanU (fun _ => x) p.u f (f + i), p.z, p.i⟩ x q wr HP5.out (by have := HX.out; omega) hq2)
        clear hq
        go_wp2_with fail
        refine GV.out.mono ?_
        rintro e w2 ⟨rfl, h1, h2⟩
        have H1 := Lib.hid h1
        have H2 := Lib.hid h2
        clear h1 h2 hqs
        go_wp2_with fail
        go_roundg (1 - (i + 1))
        case measure => omega
        case rel => exact ⟨i + 1, by omega, by go_num, by rw [SP.out]; exact H1.out, HT5.out.trans H2.out⟩
      · obtain rfl : i = 1 := by omega
        go_wp2
        go_ret2
        exact ⟨rfl, HP5.out, HT5.out⟩
theorem alloc_1 (g : Nat) (p : PS) (x : Nat) (m : Bool) (r : Option Nat) (w : World) (h : PoolAt w g p) (hx : 2 ≤ x ∧ x ≤ 5) (hr : ∀ f, r = some f → f + 2 ≤ 1024)
    (hrun : Calls Try.prog 65 #[.pointer (some ⟨g, 0, none⟩), .int .i64 1, .bool m] w fun e w' => e = .returned (runV r) ∧ Below w.heap.size w w') :
    Calls Try.prog 48 #[.pointer (some ⟨g, 0, none⟩), .int .i64 (x : Int), .int .i64 1, .bool m] w (AllocTo w g p x 2 r) := by
  have MG := Lib.hid (mayGive_any (x : Int) w)
  rw [decide_eq_true (show 2 ≤ (x : Int) ∧ (x : Int) ≤ 5 from by omega)] at MG
  have HP := Lib.hid h
  have RN := Lib.hid hrun
  have HX := Lib.hid hx
  have HR := Lib.hid hr
  clear h hrun hx hr
  go_enter Try.func48, Try.ntmps48
  go_wp2_with (first | (go_at_call 64; refine MG.out.mono ?_; rintro e w' ⟨rfl, rfl⟩))
  refine RN.out.mono ?_
  rintro e w1 ⟨rfl, hb⟩
  have HB1 := Lib.hid hb
  have HP1 := Lib.hid (HP.out.below hb HP.out.lt)
  clear hb
  unfold runV
  cases r with
  | none =>
    go_wp2
    go_ret2
    exact ⟨rfl, HP1.out, Turns.of_below HB1.out (Nat.le_refl _)⟩
  | some f =>
    have hfl : f + 2 ≤ 1024 := HR.out f rfl
    go_wp2_with fail
    go_loopg [12, 39] 2 (fun gg _ s39 wx => ∃ i : Nat, i + gg = 2 ∧ s39 = .int .i64 (i : Int) ∧ PoolAt wx g ⟨spanU (fun _ => x) p.u f (f + i), p.z, p.i⟩ ∧ Turns (fun j => j = g) w wx)
    case atStart => exact ⟨0, by omega, rfl, by rw [Nat.add_zero, spanU_none]; exact HP1.out, Turns.of_below HB1.out (Nat.le_refl _)⟩
    case round =>
      obtain ⟨i, hig, rfl, hp5, ht5⟩ := hrel
      have HP5 := Lib.hid hp5
      have HT5 := Lib.hid ht5
      clear hp5 ht5
      by_cases hlt : i < 2
      · have t4 : decide ((i : Int) < 2) = true := decide_eq_true (by omega)
        have t5 : (i : Int) < 2 := by omega
        obtain ⟨q, hq⟩ : ∃ q, q = f + i := ⟨_, rfl⟩
        have hq2 : q < 1024 := by omega
        have hqs : (f : Int) + (i : Int) = (q : Int) := by omega
        have SP := Lib.hid (show spanU (fun _ => x) p.u f (f + (i + 1)) = (spanU (fun _ => x) p.u f (f + i)).set q x from by
          rw [hq, ← Nat.add_assoc]
          exact spanU_succ (fun _ => x) p.u f (f + i) (by omega) (by rw [HP.out.ok.u]; omega))
        have GV := Lib.hid (give_one g ⟨spanU (fun _ => x) p.u f (f + i), p.z, p.i⟩ x q wr HP5.out (by have := HX.out; omega) hq2)
        clear hq
        go_wp2_with fail
        refine GV.out.mono ?_
        rintro e w2 ⟨rfl, h1, h2⟩
        have H1 := Lib.hid h1
        have H2 := Lib.hid h2
        clear h1 h2 hqs
        go_wp2_with fail
        go_roundg (2 - (i + 1))
        case measure => omega
        case rel => exact ⟨i + 1, by omega, by go_num, by rw [SP.out]; exact H1.out, HT5.out.trans H2.out⟩
      · obtain rfl : i = 2 := by omega
        go_wp2
        go_ret2
        exact ⟨rfl, HP5.out, HT5.out⟩
theorem alloc_2 (g : Nat) (p : PS) (x : Nat) (m : Bool) (r : Option Nat) (w : World) (h : PoolAt w g p) (hx : 2 ≤ x ∧ x ≤ 5) (hr : ∀ f, r = some f → f + 4 ≤ 1024)
    (hrun : Calls Try.prog 65 #[.pointer (some ⟨g, 0, none⟩), .int .i64 2, .bool m] w fun e w' => e = .returned (runV r) ∧ Below w.heap.size w w') :
    Calls Try.prog 48 #[.pointer (some ⟨g, 0, none⟩), .int .i64 (x : Int), .int .i64 2, .bool m] w (AllocTo w g p x 4 r) := by
  have MG := Lib.hid (mayGive_any (x : Int) w)
  rw [decide_eq_true (show 2 ≤ (x : Int) ∧ (x : Int) ≤ 5 from by omega)] at MG
  have HP := Lib.hid h
  have RN := Lib.hid hrun
  have HX := Lib.hid hx
  have HR := Lib.hid hr
  clear h hrun hx hr
  go_enter Try.func48, Try.ntmps48
  go_wp2_with (first | (go_at_call 64; refine MG.out.mono ?_; rintro e w' ⟨rfl, rfl⟩))
  refine RN.out.mono ?_
  rintro e w1 ⟨rfl, hb⟩
  have HB1 := Lib.hid hb
  have HP1 := Lib.hid (HP.out.below hb HP.out.lt)
  clear hb
  unfold runV
  cases r with
  | none =>
    go_wp2
    go_ret2
    exact ⟨rfl, HP1.out, Turns.of_below HB1.out (Nat.le_refl _)⟩
  | some f =>
    have hfl : f + 4 ≤ 1024 := HR.out f rfl
    go_wp2_with fail
    go_loopg [12, 39] 4 (fun gg _ s39 wx => ∃ i : Nat, i + gg = 4 ∧ s39 = .int .i64 (i : Int) ∧ PoolAt wx g ⟨spanU (fun _ => x) p.u f (f + i), p.z, p.i⟩ ∧ Turns (fun j => j = g) w wx)
    case atStart => exact ⟨0, by omega, rfl, by rw [Nat.add_zero, spanU_none]; exact HP1.out, Turns.of_below HB1.out (Nat.le_refl _)⟩
    case round =>
      obtain ⟨i, hig, rfl, hp5, ht5⟩ := hrel
      have HP5 := Lib.hid hp5
      have HT5 := Lib.hid ht5
      clear hp5 ht5
      by_cases hlt : i < 4
      · have t4 : decide ((i : Int) < 4) = true := decide_eq_true (by omega)
        have t5 : (i : Int) < 4 := by omega
        obtain ⟨q, hq⟩ : ∃ q, q = f + i := ⟨_, rfl⟩
        have hq2 : q < 1024 := by omega
        have hqs : (f : Int) + (i : Int) = (q : Int) := by omega
        have SP := Lib.hid (show spanU (fun _ => x) p.u f (f + (i + 1)) = (spanU (fun _ => x) p.u f (f + i)).set q x from by
          rw [hq, ← Nat.add_assoc]
          exact spanU_succ (fun _ => x) p.u f (f + i) (by omega) (by rw [HP.out.ok.u]; omega))
        have GV := Lib.hid (give_one g ⟨spanU (fun _ => x) p.u f (f + i), p.z, p.i⟩ x q wr HP5.out (by have := HX.out; omega) hq2)
        clear hq
        go_wp2_with fail
        refine GV.out.mono ?_
        rintro e w2 ⟨rfl, h1, h2⟩
        have H1 := Lib.hid h1
        have H2 := Lib.hid h2
        clear h1 h2 hqs
        go_wp2_with fail
        go_roundg (4 - (i + 1))
        case measure => omega
        case rel => exact ⟨i + 1, by omega, by go_num, by rw [SP.out]; exact H1.out, HT5.out.trans H2.out⟩
      · obtain rfl : i = 4 := by omega
        go_wp2
        go_ret2
        exact ⟨rfl, HP5.out, HT5.out⟩
theorem alloc_3 (g : Nat) (p : PS) (x : Nat) (m : Bool) (r : Option Nat) (w : World) (h : PoolAt w g p) (hx : 2 ≤ x ∧ x ≤ 5) (hr : ∀ f, r = some f → f + 8 ≤ 1024)
    (hrun : Calls Try.prog 65 #[.pointer (some ⟨g, 0, none⟩), .int .i64 3, .bool m] w fun e w' => e = .returned (runV r) ∧ Below w.heap.size w w') :
    Calls Try.prog 48 #[.pointer (some ⟨g, 0, none⟩), .int .i64 (x : Int), .int .i64 3, .bool m] w (AllocTo w g p x 8 r) := by
  have MG := Lib.hid (mayGive_any (x : Int) w)
  rw [decide_eq_true (show 2 ≤ (x : Int) ∧ (x : Int) ≤ 5 from by omega)] at MG
  have HP := Lib.hid h
  have RN := Lib.hid hrun
  have HX := Lib.hid hx
  have HR := Lib.hid hr
  clear h hrun hx hr
  go_enter Try.func48, Try.ntmps48
  go_wp2_with (first | (go_at_call 64; refine MG.out.mono ?_; rintro e w' ⟨rfl, rfl⟩))
  refine RN.out.mono ?_
  rintro e w1 ⟨rfl, hb⟩
  have HB1 := Lib.hid hb
  have HP1 := Lib.hid (HP.out.below hb HP.out.lt)
  clear hb
  unfold runV
  cases r with
  | none =>
    go_wp2
    go_ret2
    exact ⟨rfl, HP1.out, Turns.of_below HB1.out (Nat.le_refl _)⟩
  | some f =>
    have hfl : f + 8 ≤ 1024 := HR.out f rfl
    go_wp2_with fail
    go_loopg [12, 39] 8 (fun gg _ s39 wx => ∃ i : Nat, i + gg = 8 ∧ s39 = .int .i64 (i : Int) ∧ PoolAt wx g ⟨spanU (fun _ => x) p.u f (f + i), p.z, p.i⟩ ∧ Turns (fun j => j = g) w wx)
    case atStart => exact ⟨0, by omega, rfl, by rw [Nat.add_zero, spanU_none]; exact HP1.out, Turns.of_below HB1.out (Nat.le_refl _)⟩
    case round =>
      obtain ⟨i, hig, rfl, hp5, ht5⟩ := hrel
      have HP5 := Lib.hid hp5
      have HT5 := Lib.hid ht5
      clear hp5 ht5
      by_cases hlt : i < 8
      · have t4 : decide ((i : Int) < 8) = true := decide_eq_true (by omega)
        have t5 : (i : Int) < 8 := by omega
        obtain ⟨q, hq⟩ : ∃ q, q = f + i := ⟨_, rfl⟩
        have hq2 : q < 1024 := by omega
        have hqs : (f : Int) + (i : Int) = (q : Int) := by omega
        have SP := Lib.hid (show spanU (fun _ => x) p.u f (f + (i + 1)) = (spanU (fun _ => x) p.u f (f + i)).set q x from by
          rw [hq, ← Nat.add_assoc]
          exact spanU_succ (fun _ => x) p.u f (f + i) (by omega) (by rw [HP.out.ok.u]; omega))
        have GV := Lib.hid (give_one g ⟨spanU (fun _ => x) p.u f (f + i), p.z, p.i⟩ x q wr HP5.out (by have := HX.out; omega) hq2)
        clear hq
        go_wp2_with fail
        refine GV.out.mono ?_
        rintro e w2 ⟨rfl, h1, h2⟩
        have H1 := Lib.hid h1
        have H2 := Lib.hid h2
        clear h1 h2 hqs
        go_wp2_with fail
        go_roundg (8 - (i + 1))
        case measure => omega
        case rel => exact ⟨i + 1, by omega, by go_num, by rw [SP.out]; exact H1.out, HT5.out.trans H2.out⟩
      · obtain rfl : i = 8 := by omega
        go_wp2
        go_ret2
        exact ⟨rfl, HP5.out, HT5.out⟩
theorem alloc_4 (g : Nat) (p : PS) (x : Nat) (m : Bool) (r : Option Nat) (w : World) (h : PoolAt w g p) (hx : 2 ≤ x ∧ x ≤ 5) (hr : ∀ f, r = some f → f + 16 ≤ 1024)
    (hrun : Calls Try.prog 65 #[.pointer (some ⟨g, 0, none⟩), .int .i64 4, .bool m] w fun e w' => e = .returned (runV r) ∧ Below w.heap.size w w') :
    Calls Try.prog 48 #[.pointer (some ⟨g, 0, none⟩), .int .i64 (x : Int), .int .i64 4, .bool m] w (AllocTo w g p x 16 r) := by
  have MG := Lib.hid (mayGive_any (x : Int) w)
  rw [decide_eq_true (show 2 ≤ (x : Int) ∧ (x : Int) ≤ 5 from by omega)] at MG
  have HP := Lib.hid h
  have RN := Lib.hid hrun
  have HX := Lib.hid hx
  have HR := Lib.hid hr
  clear h hrun hx hr
  go_enter Try.func48, Try.ntmps48
  go_wp2_with (first | (go_at_call 64; refine MG.out.mono ?_; rintro e w' ⟨rfl, rfl⟩))
  refine RN.out.mono ?_
  rintro e w1 ⟨rfl, hb⟩
  have HB1 := Lib.hid hb
  have HP1 := Lib.hid (HP.out.below hb HP.out.lt)
  clear hb
  unfold runV
  cases r with
  | none =>
    go_wp2
    go_ret2
    exact ⟨rfl, HP1.out, Turns.of_below HB1.out (Nat.le_refl _)⟩
  | some f =>
    have hfl : f + 16 ≤ 1024 := HR.out f rfl
    go_wp2_with fail
    go_loopg [12, 39] 16 (fun gg _ s39 wx => ∃ i : Nat, i + gg = 16 ∧ s39 = .int .i64 (i : Int) ∧ PoolAt wx g ⟨spanU (fun _ => x) p.u f (f + i), p.z, p.i⟩ ∧ Turns (fun j => j = g) w wx)
    case atStart => exact ⟨0, by omega, rfl, by rw [Nat.add_zero, spanU_none]; exact HP1.out, Turns.of_below HB1.out (Nat.le_refl _)⟩
    case round =>
      obtain ⟨i, hig, rfl, hp5, ht5⟩ := hrel
      have HP5 := Lib.hid hp5
      have HT5 := Lib.hid ht5
      clear hp5 ht5
      by_cases hlt : i < 16
      · have t4 : decide ((i : Int) < 16) = true := decide_eq_true (by omega)
        have t5 : (i : Int) < 16 := by omega
        obtain ⟨q, hq⟩ : ∃ q, q = f + i := ⟨_, rfl⟩
        have hq2 : q < 1024 := by omega
        have hqs : (f : Int) + (i : Int) = (q : Int) := by omega
        have SP := Lib.hid (show spanU (fun _ => x) p.u f (f + (i + 1)) = (spanU (fun _ => x) p.u f (f + i)).set q x from by
          rw [hq, ← Nat.add_assoc]
          exact spanU_succ (fun _ => x) p.u f (f + i) (by omega) (by rw [HP.out.ok.u]; omega))
        have GV := Lib.hid (give_one g ⟨spanU (fun _ => x) p.u f (f + i), p.z, p.i⟩ x q wr HP5.out (by have := HX.out; omega) hq2)
        clear hq
        go_wp2_with fail
        refine GV.out.mono ?_
        rintro e w2 ⟨rfl, h1, h2⟩
        have H1 := Lib.hid h1
        have H2 := Lib.hid h2
        clear h1 h2 hqs
        go_wp2_with fail
        go_roundg (16 - (i + 1))
        case measure => omega
        case rel => exact ⟨i + 1, by omega, by go_num, by rw [SP.out]; exact H1.out, HT5.out.trans H2.out⟩
      · obtain rfl : i = 16 := by omega
        go_wp2
        go_ret2
        exact ⟨rfl, HP5.out, HT5.out⟩
theorem alloc_5 (g : Nat) (p : PS) (x : Nat) (m : Bool) (r : Option Nat) (w : World) (h : PoolAt w g p) (hx : 2 ≤ x ∧ x ≤ 5) (hr : ∀ f, r = some f → f + 32 ≤ 1024)
    (hrun : Calls Try.prog 65 #[.pointer (some ⟨g, 0, none⟩), .int .i64 5, .bool m] w fun e w' => e = .returned (runV r) ∧ Below w.heap.size w w') :
    Calls Try.prog 48 #[.pointer (some ⟨g, 0, none⟩), .int .i64 (x : Int), .int .i64 5, .bool m] w (AllocTo w g p x 32 r) := by
  have MG := Lib.hid (mayGive_any (x : Int) w)
  rw [decide_eq_true (show 2 ≤ (x : Int) ∧ (x : Int) ≤ 5 from by omega)] at MG
  have HP := Lib.hid h
  have RN := Lib.hid hrun
  have HX := Lib.hid hx
  have HR := Lib.hid hr
  clear h hrun hx hr
  go_enter Try.func48, Try.ntmps48
  go_wp2_with (first | (go_at_call 64; refine MG.out.mono ?_; rintro e w' ⟨rfl, rfl⟩))
  refine RN.out.mono ?_
  rintro e w1 ⟨rfl, hb⟩
  have HB1 := Lib.hid hb
  have HP1 := Lib.hid (HP.out.below hb HP.out.lt)
  clear hb
  unfold runV
  cases r with
  | none =>
    go_wp2
    go_ret2
    exact ⟨rfl, HP1.out, Turns.of_below HB1.out (Nat.le_refl _)⟩
  | some f =>
    have hfl : f + 32 ≤ 1024 := HR.out f rfl
    go_wp2_with fail
    go_loopg [12, 39] 32 (fun gg _ s39 wx => ∃ i : Nat, i + gg = 32 ∧ s39 = .int .i64 (i : Int) ∧ PoolAt wx g ⟨spanU (fun _ => x) p.u f (f + i), p.z, p.i⟩ ∧ Turns (fun j => j = g) w wx)
    case atStart => exact ⟨0, by omega, rfl, by rw [Nat.add_zero, spanU_none]; exact HP1.out, Turns.of_below HB1.out (Nat.le_refl _)⟩
    case round =>
      obtain ⟨i, hig, rfl, hp5, ht5⟩ := hrel
      have HP5 := Lib.hid hp5
      have HT5 := Lib.hid ht5
      clear hp5 ht5
      by_cases hlt : i < 32
      · have t4 : decide ((i : Int) < 32) = true := decide_eq_true (by omega)
        have t5 : (i : Int) < 32 := by omega
        obtain ⟨q, hq⟩ : ∃ q, q = f + i := ⟨_, rfl⟩
        have hq2 : q < 1024 := by omega
        have hqs : (f : Int) + (i : Int) = (q : Int) := by omega
        have SP := Lib.hid (show spanU (fun _ => x) p.u f (f + (i + 1)) = (spanU (fun _ => x) p.u f (f + i)).set q x from by
          rw [hq, ← Nat.add_assoc]
          exact spanU_succ (fun _ => x) p.u f (f + i) (by omega) (by rw [HP.out.ok.u]; omega))
        have GV := Lib.hid (give_one g ⟨spanU (fun _ => x) p.u f (f + i), p.z, p.i⟩ x q wr HP5.out (by have := HX.out; omega) hq2)
        clear hq
        go_wp2_with fail
        refine GV.out.mono ?_
        rintro e w2 ⟨rfl, h1, h2⟩
        have H1 := Lib.hid h1
        have H2 := Lib.hid h2
        clear h1 h2 hqs
        go_wp2_with fail
        go_roundg (32 - (i + 1))
        case measure => omega
        case rel => exact ⟨i + 1, by omega, by go_num, by rw [SP.out]; exact H1.out, HT5.out.trans H2.out⟩
      · obtain rfl : i = 32 := by omega
        go_wp2
        go_ret2
        exact ⟨rfl, HP5.out, HT5.out⟩

theorem AllocTo.is {w : World} {g : Nat} {p : PS} {x : Nat} {o : Int} {m : Bool} {r3 r2 : Option Nat} {e : Ending} {w' : World} (hx : 2 ≤ x ∧ x ≤ 5) (h0 : 0 ≤ o) (h5 : o ≤ 5) (h3 : FirstF p 3 (2 ^ o.toNat) r3) (h2 : FirstF p 2 (2 ^ o.toNat) r2)
    (h : AllocTo w g p x (2 ^ o.toNat) (if m then r3.or r2 else r2) e w') : ∃ (f er : Nat) (p' : PS), AllocIs p (x : Int) o m f er p' ∧ e = .returned (.tuple #[.int .i64 (f : Int), .int .i64 (er : Int)]) ∧ PoolAt w' g p' ∧ Turns (fun j => j = g) w w' := by
  unfold AllocTo at h
  cases hr : (if m then r3.or r2 else r2) with
  | none =>
    rw [hr] at h
    obtain ⟨rfl, k1, k2⟩ := h
    exact ⟨0, 4, p, .inr ⟨by omega, r3, r2, h3, h2, by rw [hr]; exact ⟨rfl, rfl, rfl⟩⟩, rfl, k1, k2⟩
  | some f =>
    rw [hr] at h
    obtain ⟨rfl, k1, k2⟩ := h
    exact ⟨f, 0, _, .inr ⟨by omega, r3, r2, h3, h2, by rw [hr]; exact ⟨rfl, rfl, rfl⟩⟩, rfl, by rw [Int.toNat_natCast]; exact k1, k2⟩
theorem pool_alloc_at (g : Nat) (p : PS) (use o : Int) (m : Bool) (w : World) (h : PoolAt w g p) :
    Calls Try.prog 48 #[.pointer (some ⟨g, 0, none⟩), .int .i64 use, .int .i64 o, .bool m] w fun e w' => ∃ (f er : Nat) (p' : PS), AllocIs p use o m f er p' ∧ e = .returned (.tuple #[.int .i64 (f : Int), .int .i64 (er : Int)]) ∧ PoolAt w' g p' ∧ Turns (fun j => j = g) w w' := by
  by_cases hb : (use < 2 ∨ 5 < use) ∨ (o < 0 ∨ 5 < o)
  · refine (alloc_bad g use o m w hb).mono ?_
    rintro e w' ⟨rfl, rfl⟩
    exact ⟨0, 1, p, .inl ⟨hb, rfl, rfl, rfl⟩, rfl, h, Turns.refl _ _⟩
  · obtain ⟨x, rfl⟩ := Int.eq_ofNat_of_zero_le (show 0 ≤ use from by omega)
    have hx : 2 ≤ x ∧ x ≤ 5 := by omega
    obtain ⟨r3, h3⟩ := firstF_ex p 3 (2 ^ o.toNat)
    obtain ⟨r2, h2⟩ := firstF_ex p 2 (2 ^ o.toNat)
    have hrun : Calls Try.prog 65 #[.pointer (some ⟨g, 0, none⟩), .int .i64 o, .bool m] w fun e w' => e = .returned (runV (if m then r3.or r2 else r2)) ∧ Below w.heap.size w w' := by
      refine (prun_any g p o m w h (by omega) (by omega)).mono ?_
      rintro e w' ⟨s3, s2, k3, k2, rfl, k⟩
      rw [k3.uniq h3, k2.uniq h2]
      exact ⟨rfl, k⟩
    have hle : ∀ f, (if m then r3.or r2 else r2) = some f → f + 2 ^ o.toNat ≤ 1024 := by
      intro f hf
      have ho : o.toNat ≤ 5 := by omega
      cases m with
      | false =>
        have hf : r2 = some f := by simpa using hf
        rw [hf] at h2
        exact firstF_le ho h2
      | true =>
        have hf : r3.or r2 = some f := by simpa using hf
        cases r3 with
        | some y =>
          have : y = f := by simpa using hf
          rw [this] at h3
          exact firstF_le ho h3
        | none =>
          have hf : r2 = some f := by simpa using hf
          rw [hf] at h2
          exact firstF_le ho h2
    have hc : o = 0 ∨ o = 1 ∨ o = 2 ∨ o = 3 ∨ o = 4 ∨ o = 5 := by omega
    have is := fun e w' => @AllocTo.is w g p x o m r3 r2 e w' hx (by omega) (by omega) h3 h2
    rcases hc with rfl | rfl | rfl | rfl | rfl | rfl
    · exact (alloc_0 g p x m _ w h hx hle hrun).mono is
    · exact (alloc_1 g p x m _ w h hx hle hrun).mono is
    · exact (alloc_2 g p x m _ w h hx hle hrun).mono is
    · exact (alloc_3 g p x m _ w h hx hle hrun).mono is
    · exact (alloc_4 g p x m _ w h hx hle hrun).mono is
    · exact (alloc_5 g p x m _ w h hx hle hrun).mono is
end Go.Proofs.Ytegoookllckhiaa
