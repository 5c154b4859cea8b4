/-
  The contract of the document's own Alloc: the greater orders, and all of them.
  Conditions: none beside RefP's.
-/
import Derived.Test.YtkpjimpjopbdkaaRefA
namespace Go.Proofs.Ytkpjimpjopbdkaa
open Go.RowKit
set_option linter.unusedVariables false

set_option maxRecDepth 100000 in
set_option maxHeartbeats 4000000 in
theorem refAl_3 (g : Nat) (p : PS) (u : Nat) (m : Bool) (w : World) (h : RefP w g p) (hu : 2 ≤ u ∧ u ≤ 5) :
    Calls Try.prog 24 #[.pointer (some ⟨g, 0, none⟩), .int .i64 (u : Int), .int .i64 3, .bool m] w fun e w' => ∃ f er : Nat, e = .returned (.tuple #[.int .i64 (f : Int), .int .i64 (er : Int)]) ∧ ∃ p', AllocIs p (u : Int) 3 m f er p' ∧ RefP w' g p' ∧ Turns (fun k => k = g) w w' := by
  have HR := Lib.hid h
  have HU := Lib.hid hu
  have d1 : decide ((u : Int) < 2) = false := decide_eq_false (by omega)
  have d2 : decide (5 < (u : Int)) = false := decide_eq_false (by omega)
  have hu6 : u ≤ 6 := by omega
  clear h hu
  go_enter Try.func24, Try.ntmps24
  go_wp2_with fail
  clear d1 d2
  go_loopg [11] 3 (fun gg s11 wx => ∃ z : Nat, z = gg ∧ 1 ≤ z ∧ z ≤ 3 ∧ s11 = .int .i64 (z : Int) ∧ RefP wx g p ∧ Turns (fun k => k = g) w wx ∧ (z < 3 → m = true → FirstF p 3 8 none) ∧ (z < 2 → FirstF p 2 8 none))
  case atStart => exact ⟨3, rfl, by omega, by omega, rfl, HR.out, Turns.refl _ _, fun h => absurd h (by omega), fun h => absurd h (by omega)⟩
  case round =>
    obtain ⟨z, hzg, hz1, hz3, rfl, hr, ht, h3, h2⟩ := hrel
    have HR1 := Lib.hid hr
    have HT1 := Lib.hid ht
    have H3 := Lib.hid h3
    have H2 := Lib.hid h2
    obtain ⟨G, rfl⟩ : ∃ G, G = gk := ⟨_, rfl⟩
    have HZG := Lib.hid hzg
    clear hr ht h3 h2 hzg
    have hzc : z = 1 ∨ z = 2 ∨ z = 3 := by omega
    rcases hzc with rfl | rfl | rfl
    · go_wp2
      go_ret2
      exact ⟨0, 4, rfl, p, allocIs_full (o := 3) HU.out (by omega) (H3.out (by omega)) (H2.out (by omega)), HR1.out, HT1.out⟩
    · go_wp2_with fail
      go_loopg [12] 1056 (fun gg s12 wx => ∃ f : Nat, f + gg = 1056 ∧ s12 = .int .i64 (f : Int) ∧ f ≤ 1024 ∧ f % 8 = 0 ∧ (∀ x, x < f → ¬ RunF p 2 8 x) ∧ RefP wx g p ∧ Turns (fun k => k = g) w wx)
      case atStart => exact ⟨0, rfl, rfl, by omega, rfl, fun x hx => absurd hx (by omega), HR1.out, HT1.out⟩
      case round =>
        obtain ⟨f, hfg, rfl, hf4, hm, hb, hr, ht⟩ := hrel
        have HM := Lib.hid hm
        have HB := Lib.hid hb
        have HR2 := Lib.hid hr
        have HT2 := Lib.hid ht
        obtain ⟨G2, rfl⟩ : ∃ G2, G2 = gk := ⟨_, rfl⟩
        by_cases hlt : f < 1024
        · have t1 : decide ((f : Int) < 1024) = true := decide_eq_true (by omega)
          obtain ⟨s, hs⟩ : ∃ s, s = f / 32 := ⟨_, rfl⟩
          have q1 : (f : Int).tdiv 32 = (s : Int) := by rw [Int.tdiv_eq_ediv_of_nonneg (by omega)]; omega
          have q2 : (f : Int) / 32 = (s : Int) := by omega
          have hs32 : s < 32 := by omega
          have hs0 : (0 : Int) ≤ (s : Int) := by omega
          have hs1 : (s : Int) < 32 := by omega
          have hfS : f + 8 ≤ 1024 := by omega
          have cz := hr.cz hs32
          have ci := hr.ci hs32
          obtain ⟨zz, hzd⟩ : ∃ zz, zz = p.z.getD s 0 := ⟨_, rfl⟩
          obtain ⟨ii, hid⟩ : ∃ ii, ii = p.i.getD s false := ⟨_, rfl⟩
          rw [← hzd] at cz
          rw [← hid] at ci
          have HIS := Lib.hid (show ((zz = 2 ∧ ii = false) ∧ ∀ j, f ≤ j → j < f + 8 → p.u.getD j 0 = 1) ↔ RunF p 2 8 f from by
            rw [hzd, hid, hs]
            exact ⟨fun h => ⟨HM.out, hlt, h.1.1, h.1.2, h.2⟩, fun h => ⟨⟨h.2.2.1, h.2.2.2.1⟩, h.2.2.2.2⟩⟩)
          clear hm hb hr ht hs hzd hid
          have HS3 : (zz = 2 → Hid ((!ii) = true ↔ (zz = 2 ∧ ii = false) ∧ ∀ j, f ≤ j → j < f → p.u.getD j 0 = 1)) := fun e => Lib.hid ⟨fun h => ⟨⟨e, by simpa using h⟩, fun j h1 h2 => absurd h2 (by omega)⟩, fun h => by simp [h.1.2]⟩
          have HS4 : (zz ≠ 2 → Hid (false = true ↔ (zz = 2 ∧ ii = false) ∧ ∀ j, f ≤ j → j < f → p.u.getD j 0 = 1)) := fun e => Lib.hid ⟨fun h => (by cases h), fun h => absurd h.1.1 e⟩
          obtain ⟨k0, hk0, HKS⟩ : ∃ k0 : Bool, (zz = 2 ∧ k0 = !ii ∨ zz ≠ 2 ∧ k0 = false) ∧ Hid (k0 = true ↔ (zz = 2 ∧ ii = false) ∧ ∀ j, f ≤ j → j < f → p.u.getD j 0 = 1) := by
            by_cases e : zz = 2
            · exact ⟨!ii, .inl ⟨e, rfl⟩, HS3 e⟩
            · exact ⟨false, .inr ⟨e, rfl⟩, HS4 e⟩
          clear HS3 HS4
          rcases hk0 with ⟨hzz, hk0⟩ | ⟨hzz, hk0⟩
          · have t2 : ((zz : Int) == 2) = true := by rw [beq_iff_eq]; omega
            subst hk0
            clear hzz
            go_wp2_with fail
            go_loopg [13, 14] 8 (fun gi s13 s14 wy => ∃ (k : Nat) (ok : Bool), f ≤ k ∧ k + gi = f + 8 ∧ s14 = .int .i64 (k : Int) ∧ s13 = .bool ok ∧ (ok = true ↔ (zz = 2 ∧ ii = false) ∧ ∀ j, f ≤ j → j < k → p.u.getD j 0 = 1) ∧ RefP wy g p ∧ Turns (fun k => k = g) w wy)
            case atStart => exact ⟨f, _, Nat.le_refl _, rfl, rfl, rfl, HKS.out, HR2.out, HT2.out⟩
            case round =>
              obtain ⟨k, ok, hfk, hkg, rfl, rfl, hok, hr, ht⟩ := hrel
              have HOK := Lib.hid hok
              have HR3 := Lib.hid hr
              have HT3 := Lib.hid ht
              clear hok
              by_cases hk : k < f + 8
              · have t4 : decide ((k : Int) < (f : Int) + 8) = true := decide_eq_true (by omega)
                have t5 : (k : Int) < 1024 := by omega
                have t6 : (0 : Int) ≤ (k : Int) := by omega
                have cu := hr.cu (f := k) (by omega)
                obtain ⟨y, hy⟩ : ∃ y, y = p.u.getD k 0 := ⟨_, rfl⟩
                rw [← hy] at cu
                have HY := Lib.hid hy
                have HW := Lib.hid (ones_succ (u := p.u) hfk)
                clear hy hr ht
                cases ok with
                | true =>
                  obtain ⟨h1, h2⟩ := HOK.out.1 rfl
                  have HA1 := Lib.hid h1
                  have HA2 := Lib.hid h2
                  clear HOK h1 h2
                  by_cases hy1 : y = 1
                  · have t7 : ((y : Int) == 1) = true := by rw [beq_iff_eq]; omega
                    have HY1 := Lib.hid hy1
                    clear hy1
                    go_wp2_with fail
                    go_roundg (f + 8 - (k + 1))
                    case measure => omega
                    case rel => exact ⟨k + 1, true, by omega, by omega, by go_num, rfl, ⟨fun _ => ⟨HA1.out, HW.out.2 ⟨HA2.out, by rw [← HY.out]; exact HY1.out⟩⟩, fun _ => rfl⟩, HR3.out, HT3.out⟩
                  · have t7 : ((y : Int) == 1) = false := by rw [beq_eq_false_iff_ne]; omega
                    have HY1 := Lib.hid hy1
                    clear hy1
                    go_wp2_with fail
                    go_roundg (f + 8 - (k + 1))
                    case measure => omega
                    case rel => exact ⟨k + 1, false, by omega, by omega, by go_num, rfl, ⟨fun e => (by cases e), fun h => absurd (HY.out.trans (HW.out.1 h.2).2) HY1.out⟩, HR3.out, HT3.out⟩
                | false =>
                  have HA1 := Lib.hid (show ¬ ((zz = 2 ∧ ii = false) ∧ ∀ j, f ≤ j → j < k → p.u.getD j 0 = 1) from fun h => by have := HOK.out.2 h; cases this)
                  clear HOK
                  go_wp2_with fail
                  go_roundg (f + 8 - (k + 1))
                  case measure => omega
                  case rel => exact ⟨k + 1, false, by omega, by omega, by go_num, rfl, ⟨fun e => (by cases e), fun h => absurd ⟨h.1, (HW.out.1 h.2).1⟩ HA1.out⟩, HR3.out, HT3.out⟩
              · obtain rfl : k = f + 8 := by omega
                have t4 : decide (((f + 8 : Nat) : Int) < (f : Int) + 8) = false := decide_eq_false (by omega)
                have HF := Lib.hid (HOK.out.trans HIS.out)
                clear HOK hr ht
                cases ok with
                | true =>
                  have HRA := Lib.hid (HF.out.1 rfl)
                  clear HF cz ci
                  go_wp2_with fail
                  go_loopg [15] 8 (fun gi s15 wy => ∃ k : Nat, f ≤ k ∧ k + gi = f + 8 ∧ s15 = .int .i64 (k : Int) ∧ RefP wy g ⟨spanU (fun _ => u) p.u f k, p.z, p.i⟩ ∧ Turns (fun k => k = g) w wy)
                  case atStart => exact ⟨f, Nat.le_refl _, rfl, rfl, by rw [spanU_none]; exact HR3.out, HT3.out⟩
                  case round =>
                    obtain ⟨k, hfk2, hkg2, rfl, hr, ht⟩ := hrel
                    have HR4 := Lib.hid hr
                    have HT4 := Lib.hid ht
                    by_cases hk2 : k < f + 8
                    · have t5 : decide ((k : Int) < (f : Int) + 8) = true := decide_eq_true (by omega)
                      have t6 : (k : Int) < 1024 := by omega
                      have t7 : (0 : Int) ≤ (k : Int) := by omega
                      have cu := hr.cu (f := k) (by omega)
                      have fu := hr.fz k
                      have hkl : k < p.u.length := by have := hr.2.u; rw [show (PS.u ⟨spanU (fun _ => u) p.u f k, p.z, p.i⟩) = spanU (fun _ => u) p.u f k from rfl, spanU_length] at this; omega
                      obtain ⟨y, hy⟩ : ∃ y, y = (PS.u ⟨spanU (fun _ => u) p.u f k, p.z, p.i⟩).getD k 0 := ⟨_, rfl⟩
                      rw [← hy] at cu
                      have HSU := Lib.hid (spanU_succ (fun _ => u) p.u f k hfk2 hkl)
                      clear hy hr ht hkl
                      go_wp2_with fail
                      go_roundg (f + 8 - (k + 1))
                      case measure => omega
                      case rel => exact ⟨k + 1, by omega, by omega, by go_num, by rw [HSU.out]; exact HR4.out.su (by omega) (by omega), HT4.out.trans (Turns.of_only ((Only.refl g _).setCell _ _) rfl)⟩
                    · obtain rfl : k = f + 8 := by omega
                      clear hr ht
                      go_wp2
                      go_ret2
                      exact ⟨f, 0, rfl, _, allocIs_2 (o := 3) HU.out (by omega) (H3.out (by omega)) HRA.out HB.out, HR4.out, HT4.out⟩
                | false =>
                  have HRA := Lib.hid (show ¬ RunF p 2 8 f from fun h => by have := HF.out.2 h; cases this)
                  clear HF
                  go_wp2_with fail
                  go_roundg (G2 - 8)
                  case measure => omega
                  case rel => exact ⟨f + 8, by omega, by go_num, by omega, by have := HM.out; omega, next_runF (by omega) HM.out HB.out HRA.out, HR2.out.1 |> fun _ => HR3.out, HT3.out⟩
          · have t2 : ((zz : Int) == 2) = false := by rw [beq_eq_false_iff_ne]; omega
            subst hk0
            clear hzz
            go_wp2_with fail
            go_loopg [13, 14] 8 (fun gi s13 s14 wy => ∃ (k : Nat) (ok : Bool), f ≤ k ∧ k + gi = f + 8 ∧ s14 = .int .i64 (k : Int) ∧ s13 = .bool ok ∧ (ok = true ↔ (zz = 2 ∧ ii = false) ∧ ∀ j, f ≤ j → j < k → p.u.getD j 0 = 1) ∧ RefP wy g p ∧ Turns (fun k => k = g) w wy)
            case atStart => exact ⟨f, _, Nat.le_refl _, rfl, rfl, rfl, HKS.out, HR2.out, HT2.out⟩
            case round =>
              obtain ⟨k, ok, hfk, hkg, rfl, rfl, hok, hr, ht⟩ := hrel
              have HOK := Lib.hid hok
              have HR3 := Lib.hid hr
              have HT3 := Lib.hid ht
              clear hok
              by_cases hk : k < f + 8
              · have t4 : decide ((k : Int) < (f : Int) + 8) = true := decide_eq_true (by omega)
                have t5 : (k : Int) < 1024 := by omega
                have t6 : (0 : Int) ≤ (k : Int) := by omega
                have cu := hr.cu (f := k) (by omega)
                obtain ⟨y, hy⟩ : ∃ y, y = p.u.getD k 0 := ⟨_, rfl⟩
                rw [← hy] at cu
                have HY := Lib.hid hy
                have HW := Lib.hid (ones_succ (u := p.u) hfk)
                clear hy hr ht
                cases ok with
                | true =>
                  obtain ⟨h1, h2⟩ := HOK.out.1 rfl
                  have HA1 := Lib.hid h1
                  have HA2 := Lib.hid h2
                  clear HOK h1 h2
                  by_cases hy1 : y = 1
                  · have t7 : ((y : Int) == 1) = true := by rw [beq_iff_eq]; omega
                    have HY1 := Lib.hid hy1
                    clear hy1
                    go_wp2_with fail
                    go_roundg (f + 8 - (k + 1))
                    case measure => omega
                    case rel => exact ⟨k + 1, true, by omega, by omega, by go_num, rfl, ⟨fun _ => ⟨HA1.out, HW.out.2 ⟨HA2.out, by rw [← HY.out]; exact HY1.out⟩⟩, fun _ => rfl⟩, HR3.out, HT3.out⟩
                  · have t7 : ((y : Int) == 1) = false := by rw [beq_eq_false_iff_ne]; omega
                    have HY1 := Lib.hid hy1
                    clear hy1
                    go_wp2_with fail
                    go_roundg (f + 8 - (k + 1))
                    case measure => omega
                    case rel => exact ⟨k + 1, false, by omega, by omega, by go_num, rfl, ⟨fun e => (by cases e), fun h => absurd (HY.out.trans (HW.out.1 h.2).2) HY1.out⟩, HR3.out, HT3.out⟩
                | false =>
                  have HA1 := Lib.hid (show ¬ ((zz = 2 ∧ ii = false) ∧ ∀ j, f ≤ j → j < k → p.u.getD j 0 = 1) from fun h => by have := HOK.out.2 h; cases this)
                  clear HOK
                  go_wp2_with fail
                  go_roundg (f + 8 - (k + 1))
                  case measure => omega
                  case rel => exact ⟨k + 1, false, by omega, by omega, by go_num, rfl, ⟨fun e => (by cases e), fun h => absurd ⟨h.1, (HW.out.1 h.2).1⟩ HA1.out⟩, HR3.out, HT3.out⟩
              · obtain rfl : k = f + 8 := by omega
                have t4 : decide (((f + 8 : Nat) : Int) < (f : Int) + 8) = false := decide_eq_false (by omega)
                have HF := Lib.hid (HOK.out.trans HIS.out)
                clear HOK hr ht
                cases ok with
                | true =>
                  have HRA := Lib.hid (HF.out.1 rfl)
                  clear HF cz ci
                  go_wp2_with fail
                  go_loopg [15] 8 (fun gi s15 wy => ∃ k : Nat, f ≤ k ∧ k + gi = f + 8 ∧ s15 = .int .i64 (k : Int) ∧ RefP wy g ⟨spanU (fun _ => u) p.u f k, p.z, p.i⟩ ∧ Turns (fun k => k = g) w wy)
                  case atStart => exact ⟨f, Nat.le_refl _, rfl, rfl, by rw [spanU_none]; exact HR3.out, HT3.out⟩
                  case round =>
                    obtain ⟨k, hfk2, hkg2, rfl, hr, ht⟩ := hrel
                    have HR4 := Lib.hid hr
                    have HT4 := Lib.hid ht
                    by_cases hk2 : k < f + 8
                    · have t5 : decide ((k : Int) < (f : Int) + 8) = true := decide_eq_true (by omega)
                      have t6 : (k : Int) < 1024 := by omega
                      have t7 : (0 : Int) ≤ (k : Int) := by omega
                      have cu := hr.cu (f := k) (by omega)
                      have fu := hr.fz k
                      have hkl : k < p.u.length := by have := hr.2.u; rw [show (PS.u ⟨spanU (fun _ => u) p.u f k, p.z, p.i⟩) = spanU (fun _ => u) p.u f k from rfl, spanU_length] at this; omega
                      obtain ⟨y, hy⟩ : ∃ y, y = (PS.u ⟨spanU (fun _ => u) p.u f k, p.z, p.i⟩).getD k 0 := ⟨_, rfl⟩
                      rw [← hy] at cu
                      have HSU := Lib.hid (spanU_succ (fun _ => u) p.u f k hfk2 hkl)
                      clear hy hr ht hkl
                      go_wp2_with fail
                      go_roundg (f + 8 - (k + 1))
                      case measure => omega
                      case rel => exact ⟨k + 1, by omega, by omega, by go_num, by rw [HSU.out]; exact HR4.out.su (by omega) (by omega), HT4.out.trans (Turns.of_only ((Only.refl g _).setCell _ _) rfl)⟩
                    · obtain rfl : k = f + 8 := by omega
                      clear hr ht
                      go_wp2
                      go_ret2
                      exact ⟨f, 0, rfl, _, allocIs_2 (o := 3) HU.out (by omega) (H3.out (by omega)) HRA.out HB.out, HR4.out, HT4.out⟩
                | false =>
                  have HRA := Lib.hid (show ¬ RunF p 2 8 f from fun h => by have := HF.out.2 h; cases this)
                  clear HF
                  go_wp2_with fail
                  go_roundg (G2 - 8)
                  case measure => omega
                  case rel => exact ⟨f + 8, by omega, by go_num, by omega, by have := HM.out; omega, next_runF (by omega) HM.out HB.out HRA.out, HR2.out.1 |> fun _ => HR3.out, HT3.out⟩
        · have t1 : decide ((f : Int) < 1024) = false := decide_eq_false (by omega)
          have HN := Lib.hid (show FirstF p 2 8 none from firstF_none fun x hx => hb x (by omega))
          clear hm hb hr ht
          go_wp2_with fail
          go_roundg 1
          case measure => have := HZG.out; omega
          case rel => exact ⟨1, rfl, by omega, by omega, rfl, HR2.out, HT2.out, fun _ => H3.out (by omega), fun _ => HN.out⟩
    · cases m with
      | false =>
        go_wp2_with fail
        go_roundg 2
        case measure => have := HZG.out; omega
        case rel => exact ⟨2, rfl, by omega, by omega, rfl, HR1.out, HT1.out, fun _ h => (by cases h), fun h => absurd h (by omega)⟩
      | true =>
        go_wp2_with fail
        go_loopg [12] 1056 (fun gg s12 wx => ∃ f : Nat, f + gg = 1056 ∧ s12 = .int .i64 (f : Int) ∧ f ≤ 1024 ∧ f % 8 = 0 ∧ (∀ x, x < f → ¬ RunF p 3 8 x) ∧ RefP wx g p ∧ Turns (fun k => k = g) w wx)
        case atStart => exact ⟨0, rfl, rfl, by omega, rfl, fun x hx => absurd hx (by omega), HR1.out, HT1.out⟩
        case round =>
          obtain ⟨f, hfg, rfl, hf4, hm, hb, hr, ht⟩ := hrel
          have HM := Lib.hid hm
          have HB := Lib.hid hb
          have HR2 := Lib.hid hr
          have HT2 := Lib.hid ht
          obtain ⟨G2, rfl⟩ : ∃ G2, G2 = gk := ⟨_, rfl⟩
          by_cases hlt : f < 1024
          · have t1 : decide ((f : Int) < 1024) = true := decide_eq_true (by omega)
            obtain ⟨s, hs⟩ : ∃ s, s = f / 32 := ⟨_, rfl⟩
            have q1 : (f : Int).tdiv 32 = (s : Int) := by rw [Int.tdiv_eq_ediv_of_nonneg (by omega)]; omega
            have q2 : (f : Int) / 32 = (s : Int) := by omega
            have hs32 : s < 32 := by omega
            have hs0 : (0 : Int) ≤ (s : Int) := by omega
            have hs1 : (s : Int) < 32 := by omega
            have hfS : f + 8 ≤ 1024 := by omega
            have cz := hr.cz hs32
            have ci := hr.ci hs32
            obtain ⟨zz, hzd⟩ : ∃ zz, zz = p.z.getD s 0 := ⟨_, rfl⟩
            obtain ⟨ii, hid⟩ : ∃ ii, ii = p.i.getD s false := ⟨_, rfl⟩
            rw [← hzd] at cz
            rw [← hid] at ci
            have HIS := Lib.hid (show ((zz = 3 ∧ ii = false) ∧ ∀ j, f ≤ j → j < f + 8 → p.u.getD j 0 = 1) ↔ RunF p 3 8 f from by
              rw [hzd, hid, hs]
              exact ⟨fun h => ⟨HM.out, hlt, h.1.1, h.1.2, h.2⟩, fun h => ⟨⟨h.2.2.1, h.2.2.2.1⟩, h.2.2.2.2⟩⟩)
            clear hm hb hr ht hs hzd hid
            have HS3 : (zz = 3 → Hid ((!ii) = true ↔ (zz = 3 ∧ ii = false) ∧ ∀ j, f ≤ j → j < f → p.u.getD j 0 = 1)) := fun e => Lib.hid ⟨fun h => ⟨⟨e, by simpa using h⟩, fun j h1 h2 => absurd h2 (by omega)⟩, fun h => by simp [h.1.2]⟩
            have HS4 : (zz ≠ 3 → Hid (false = true ↔ (zz = 3 ∧ ii = false) ∧ ∀ j, f ≤ j → j < f → p.u.getD j 0 = 1)) := fun e => Lib.hid ⟨fun h => (by cases h), fun h => absurd h.1.1 e⟩
            obtain ⟨k0, hk0, HKS⟩ : ∃ k0 : Bool, (zz = 3 ∧ k0 = !ii ∨ zz ≠ 3 ∧ k0 = false) ∧ Hid (k0 = true ↔ (zz = 3 ∧ ii = false) ∧ ∀ j, f ≤ j → j < f → p.u.getD j 0 = 1) := by
              by_cases e : zz = 3
              · exact ⟨!ii, .inl ⟨e, rfl⟩, HS3 e⟩
              · exact ⟨false, .inr ⟨e, rfl⟩, HS4 e⟩
            clear HS3 HS4
            rcases hk0 with ⟨hzz, hk0⟩ | ⟨hzz, hk0⟩
            · have t2 : ((zz : Int) == 3) = true := by rw [beq_iff_eq]; omega
              subst hk0
              clear hzz
              go_wp2_with fail
              go_loopg [13, 14] 8 (fun gi s13 s14 wy => ∃ (k : Nat) (ok : Bool), f ≤ k ∧ k + gi = f + 8 ∧ s14 = .int .i64 (k : Int) ∧ s13 = .bool ok ∧ (ok = true ↔ (zz = 3 ∧ ii = false) ∧ ∀ j, f ≤ j → j < k → p.u.getD j 0 = 1) ∧ RefP wy g p ∧ Turns (fun k => k = g) w wy)
              case atStart => exact ⟨f, _, Nat.le_refl _, rfl, rfl, rfl, HKS.out, HR2.out, HT2.out⟩
              case round =>
                obtain ⟨k, ok, hfk, hkg, rfl, rfl, hok, hr, ht⟩ := hrel
                have HOK := Lib.hid hok
                have HR3 := Lib.hid hr
                have HT3 := Lib.hid ht
                clear hok
                by_cases hk : k < f + 8
                · have t4 : decide ((k : Int) < (f : Int) + 8) = true := decide_eq_true (by omega)
                  have t5 : (k : Int) < 1024 := by omega
                  have t6 : (0 : Int) ≤ (k : Int) := by omega
                  have cu := hr.cu (f := k) (by omega)
                  obtain ⟨y, hy⟩ : ∃ y, y = p.u.getD k 0 := ⟨_, rfl⟩
                  rw [← hy] at cu
                  have HY := Lib.hid hy
                  have HW := Lib.hid (ones_succ (u := p.u) hfk)
                  clear hy hr ht
                  cases ok with
                  | true =>
                    obtain ⟨h1, h2⟩ := HOK.out.1 rfl
                    have HA1 := Lib.hid h1
                    have HA2 := Lib.hid h2
                    clear HOK h1 h2
                    by_cases hy1 : y = 1
                    · have t7 : ((y : Int) == 1) = true := by rw [beq_iff_eq]; omega
                      have HY1 := Lib.hid hy1
                      clear hy1
                      go_wp2_with fail
                      go_roundg (f + 8 - (k + 1))
                      case measure => omega
                      case rel => exact ⟨k + 1, true, by omega, by omega, by go_num, rfl, ⟨fun _ => ⟨HA1.out, HW.out.2 ⟨HA2.out, by rw [← HY.out]; exact HY1.out⟩⟩, fun _ => rfl⟩, HR3.out, HT3.out⟩
                    · have t7 : ((y : Int) == 1) = false := by rw [beq_eq_false_iff_ne]; omega
                      have HY1 := Lib.hid hy1
                      clear hy1
                      go_wp2_with fail
                      go_roundg (f + 8 - (k + 1))
                      case measure => omega
                      case rel => exact ⟨k + 1, false, by omega, by omega, by go_num, rfl, ⟨fun e => (by cases e), fun h => absurd (HY.out.trans (HW.out.1 h.2).2) HY1.out⟩, HR3.out, HT3.out⟩
                  | false =>
                    have HA1 := Lib.hid (show ¬ ((zz = 3 ∧ ii = false) ∧ ∀ j, f ≤ j → j < k → p.u.getD j 0 = 1) from fun h => by have := HOK.out.2 h; cases this)
                    clear HOK
                    go_wp2_with fail
                    go_roundg (f + 8 - (k + 1))
                    case measure => omega
                    case rel => exact ⟨k + 1, false, by omega, by omega, by go_num, rfl, ⟨fun e => (by cases e), fun h => absurd ⟨h.1, (HW.out.1 h.2).1⟩ HA1.out⟩, HR3.out, HT3.out⟩
                · obtain rfl : k = f + 8 := by omega
                  have t4 : decide (((f + 8 : Nat) : Int) < (f : Int) + 8) = false := decide_eq_false (by omega)
                  have HF := Lib.hid (HOK.out.trans HIS.out)
                  clear HOK hr ht
                  cases ok with
                  | true =>
                    have HRA := Lib.hid (HF.out.1 rfl)
                    clear HF cz ci
                    go_wp2_with fail
                    go_loopg [15] 8 (fun gi s15 wy => ∃ k : Nat, f ≤ k ∧ k + gi = f + 8 ∧ s15 = .int .i64 (k : Int) ∧ RefP wy g ⟨spanU (fun _ => u) p.u f k, p.z, p.i⟩ ∧ Turns (fun k => k = g) w wy)
                    case atStart => exact ⟨f, Nat.le_refl _, rfl, rfl, by rw [spanU_none]; exact HR3.out, HT3.out⟩
                    case round =>
                      obtain ⟨k, hfk2, hkg2, rfl, hr, ht⟩ := hrel
                      have HR4 := Lib.hid hr
                      have HT4 := Lib.hid ht
                      by_cases hk2 : k < f + 8
                      · have t5 : decide ((k : Int) < (f : Int) + 8) = true := decide_eq_true (by omega)
                        have t6 : (k : Int) < 1024 := by omega
                        have t7 : (0 : Int) ≤ (k : Int) := by omega
                        have cu := hr.cu (f := k) (by omega)
                        have fu := hr.fz k
                        have hkl : k < p.u.length := by have := hr.2.u; rw [show (PS.u ⟨spanU (fun _ => u) p.u f k, p.z, p.i⟩) = spanU (fun _ => u) p.u f k from rfl, spanU_length] at this; omega
                        obtain ⟨y, hy⟩ : ∃ y, y = (PS.u ⟨spanU (fun _ => u) p.u f k, p.z, p.i⟩).getD k 0 := ⟨_, rfl⟩
                        rw [← hy] at cu
                        have HSU := Lib.hid (spanU_succ (fun _ => u) p.u f k hfk2 hkl)
                        clear hy hr ht hkl
                        go_wp2_with fail
                        go_roundg (f + 8 - (k + 1))
                        case measure => omega
                        case rel => exact ⟨k + 1, by omega, by omega, by go_num, by rw [HSU.out]; exact HR4.out.su (by omega) (by omega), HT4.out.trans (Turns.of_only ((Only.refl g _).setCell _ _) rfl)⟩
                      · obtain rfl : k = f + 8 := by omega
                        clear hr ht
                        go_wp2
                        go_ret2
                        exact ⟨f, 0, rfl, _, allocIs_3 (o := 3) HU.out (by omega) HRA.out HB.out, HR4.out, HT4.out⟩
                  | false =>
                    have HRA := Lib.hid (show ¬ RunF p 3 8 f from fun h => by have := HF.out.2 h; cases this)
                    clear HF
                    go_wp2_with fail
                    go_roundg (G2 - 8)
                    case measure => omega
                    case rel => exact ⟨f + 8, by omega, by go_num, by omega, by have := HM.out; omega, next_runF (by omega) HM.out HB.out HRA.out, HR2.out.1 |> fun _ => HR3.out, HT3.out⟩
            · have t2 : ((zz : Int) == 3) = false := by rw [beq_eq_false_iff_ne]; omega
              subst hk0
              clear hzz
              go_wp2_with fail
              go_loopg [13, 14] 8 (fun gi s13 s14 wy => ∃ (k : Nat) (ok : Bool), f ≤ k ∧ k + gi = f + 8 ∧ s14 = .int .i64 (k : Int) ∧ s13 = .bool ok ∧ (ok = true ↔ (zz = 3 ∧ ii = false) ∧ ∀ j, f ≤ j → j < k → p.u.getD j 0 = 1) ∧ RefP wy g p ∧ Turns (fun k => k = g) w wy)
              case atStart => exact ⟨f, _, Nat.le_refl _, rfl, rfl, rfl, HKS.out, HR2.out, HT2.out⟩
              case round =>
                obtain ⟨k, ok, hfk, hkg, rfl, rfl, hok, hr, ht⟩ := hrel
                have HOK := Lib.hid hok
                have HR3 := Lib.hid hr
                have HT3 := Lib.hid ht
                clear hok
                by_cases hk : k < f + 8
                · have t4 : decide ((k : Int) < (f : Int) + 8) = true := decide_eq_true (by omega)
                  have t5 : (k : Int) < 1024 := by omega
                  have t6 : (0 : Int) ≤ (k : Int) := by omega
                  have cu := hr.cu (f := k) (by omega)
                  obtain ⟨y, hy⟩ : ∃ y, y = p.u.getD k 0 := ⟨_, rfl⟩
                  rw [← hy] at cu
                  have HY := Lib.hid hy
                  have HW := Lib.hid (ones_succ (u := p.u) hfk)
                  clear hy hr ht
                  cases ok with
                  | true =>
                    obtain ⟨h1, h2⟩ := HOK.out.1 rfl
                    have HA1 := Lib.hid h1
                    have HA2 := Lib.hid h2
                    clear HOK h1 h2
                    by_cases hy1 : y = 1
                    · have t7 : ((y : Int) == 1) = true := by rw [beq_iff_eq]; omega
                      have HY1 := Lib.hid hy1
                      clear hy1
                      go_wp2_with fail
                      go_roundg (f + 8 - (k + 1))
                      case measure => omega
                      case rel => exact ⟨k + 1, true, by omega, by omega, by go_num, rfl, ⟨fun _ => ⟨HA1.out, HW.out.2 ⟨HA2.out, by rw [← HY.out]; exact HY1.out⟩⟩, fun _ => rfl⟩, HR3.out, HT3.out⟩
                    · have t7 : ((y : Int) == 1) = false := by rw [beq_eq_false_iff_ne]; omega
                      have HY1 := Lib.hid hy1
                      clear hy1
                      go_wp2_with fail
                      go_roundg (f + 8 - (k + 1))
                      case measure => omega
                      case rel => exact ⟨k + 1, false, by omega, by omega, by go_num, rfl, ⟨fun e => (by cases e), fun h => absurd (HY.out.trans (HW.out.1 h.2).2) HY1.out⟩, HR3.out, HT3.out⟩
                  | false =>
                    have HA1 := Lib.hid (show ¬ ((zz = 3 ∧ ii = false) ∧ ∀ j, f ≤ j → j < k → p.u.getD j 0 = 1) from fun h => by have := HOK.out.2 h; cases this)
                    clear HOK
                    go_wp2_with fail
                    go_roundg (f + 8 - (k + 1))
                    case measure => omega
                    case rel => exact ⟨k + 1, false, by omega, by omega, by go_num, rfl, ⟨fun e => (by cases e), fun h => absurd ⟨h.1, (HW.out.1 h.2).1⟩ HA1.out⟩, HR3.out, HT3.out⟩
                · obtain rfl : k = f + 8 := by omega
                  have t4 : decide (((f + 8 : Nat) : Int) < (f : Int) + 8) = false := decide_eq_false (by omega)
                  have HF := Lib.hid (HOK.out.trans HIS.out)
                  clear HOK hr ht
                  cases ok with
                  | true =>
                    have HRA := Lib.hid (HF.out.1 rfl)
                    clear HF cz ci
                    go_wp2_with fail
                    go_loopg [15] 8 (fun gi s15 wy => ∃ k : Nat, f ≤ k ∧ k + gi = f + 8 ∧ s15 = .int .i64 (k : Int) ∧ RefP wy g ⟨spanU (fun _ => u) p.u f k, p.z, p.i⟩ ∧ Turns (fun k => k = g) w wy)
                    case atStart => exact ⟨f, Nat.le_refl _, rfl, rfl, by rw [spanU_none]; exact HR3.out, HT3.out⟩
                    case round =>
                      obtain ⟨k, hfk2, hkg2, rfl, hr, ht⟩ := hrel
                      have HR4 := Lib.hid hr
                      have HT4 := Lib.hid ht
                      by_cases hk2 : k < f + 8
                      · have t5 : decide ((k : Int) < (f : Int) + 8) = true := decide_eq_true (by omega)
                        have t6 : (k : Int) < 1024 := by omega
                        have t7 : (0 : Int) ≤ (k : Int) := by omega
                        have cu := hr.cu (f := k) (by omega)
                        have fu := hr.fz k
                        have hkl : k < p.u.length := by have := hr.2.u; rw [show (PS.u ⟨spanU (fun _ => u) p.u f k, p.z, p.i⟩) = spanU (fun _ => u) p.u f k from rfl, spanU_length] at this; omega
                        obtain ⟨y, hy⟩ : ∃ y, y = (PS.u ⟨spanU (fun _ => u) p.u f k, p.z, p.i⟩).getD k 0 := ⟨_, rfl⟩
                        rw [← hy] at cu
                        have HSU := Lib.hid (spanU_succ (fun _ => u) p.u f k hfk2 hkl)
                        clear hy hr ht hkl
                        go_wp2_with fail
                        go_roundg (f + 8 - (k + 1))
                        case measure => omega
                        case rel => exact ⟨k + 1, by omega, by omega, by go_num, by rw [HSU.out]; exact HR4.out.su (by omega) (by omega), HT4.out.trans (Turns.of_only ((Only.refl g _).setCell _ _) rfl)⟩
                      · obtain rfl : k = f + 8 := by omega
                        clear hr ht
                        go_wp2
                        go_ret2
                        exact ⟨f, 0, rfl, _, allocIs_3 (o := 3) HU.out (by omega) HRA.out HB.out, HR4.out, HT4.out⟩
                  | false =>
                    have HRA := Lib.hid (show ¬ RunF p 3 8 f from fun h => by have := HF.out.2 h; cases this)
                    clear HF
                    go_wp2_with fail
                    go_roundg (G2 - 8)
                    case measure => omega
                    case rel => exact ⟨f + 8, by omega, by go_num, by omega, by have := HM.out; omega, next_runF (by omega) HM.out HB.out HRA.out, HR2.out.1 |> fun _ => HR3.out, HT3.out⟩
          · have t1 : decide ((f : Int) < 1024) = false := decide_eq_false (by omega)
            have HN := Lib.hid (show FirstF p 3 8 none from firstF_none fun x hx => hb x (by omega))
            clear hm hb hr ht
            go_wp2_with fail
            go_roundg 2
            case measure => have := HZG.out; omega
            case rel => exact ⟨2, rfl, by omega, by omega, rfl, HR2.out, HT2.out, fun _ _ => HN.out, fun h => absurd h (by omega)⟩
set_option maxRecDepth 100000 in
set_option maxHeartbeats 4000000 in
theorem refAl_4 (g : Nat) (p : PS) (u : Nat) (m : Bool) (w : World) (h : RefP w g p) (hu : 2 ≤ u ∧ u ≤ 5) :
    Calls Try.prog 24 #[.pointer (some ⟨g, 0, none⟩), .int .i64 (u : Int), .int .i64 4, .bool m] w fun e w' => ∃ f er : Nat, e = .returned (.tuple #[.int .i64 (f : Int), .int .i64 (er : Int)]) ∧ ∃ p', AllocIs p (u : Int) 4 m f er p' ∧ RefP w' g p' ∧ Turns (fun k => k = g) w w' := by
  have HR := Lib.hid h
  have HU := Lib.hid hu
  have d1 : decide ((u : Int) < 2) = false := decide_eq_false (by omega)
  have d2 : decide (5 < (u : Int)) = false := decide_eq_false (by omega)
  have hu6 : u ≤ 6 := by omega
  clear h hu
  go_enter Try.func24, Try.ntmps24
  go_wp2_with fail
  clear d1 d2
  go_loopg [11] 3 (fun gg s11 wx => ∃ z : Nat, z = gg ∧ 1 ≤ z ∧ z ≤ 3 ∧ s11 = .int .i64 (z : Int) ∧ RefP wx g p ∧ Turns (fun k => k = g) w wx ∧ (z < 3 → m = true → FirstF p 3 16 none) ∧ (z < 2 → FirstF p 2 16 none))
  case atStart => exact ⟨3, rfl, by omega, by omega, rfl, HR.out, Turns.refl _ _, fun h => absurd h (by omega), fun h => absurd h (by omega)⟩
  case round =>
    obtain ⟨z, hzg, hz1, hz3, rfl, hr, ht, h3, h2⟩ := hrel
    have HR1 := Lib.hid hr
    have HT1 := Lib.hid ht
    have H3 := Lib.hid h3
    have H2 := Lib.hid h2
    obtain ⟨G, rfl⟩ : ∃ G, G = gk := ⟨_, rfl⟩
    have HZG := Lib.hid hzg
    clear hr ht h3 h2 hzg
    have hzc : z = 1 ∨ z = 2 ∨ z = 3 := by omega
    rcases hzc with rfl | rfl | rfl
    · go_wp2
      go_ret2
      exact ⟨0, 4, rfl, p, allocIs_full (o := 4) HU.out (by omega) (H3.out (by omega)) (H2.out (by omega)), HR1.out, HT1.out⟩
    · go_wp2_with fail
      go_loopg [12] 1056 (fun gg s12 wx => ∃ f : Nat, f + gg = 1056 ∧ s12 = .int .i64 (f : Int) ∧ f ≤ 1024 ∧ f % 16 = 0 ∧ (∀ x, x < f → ¬ RunF p 2 16 x) ∧ RefP wx g p ∧ Turns (fun k => k = g) w wx)
      case atStart => exact ⟨0, rfl, rfl, by omega, rfl, fun x hx => absurd hx (by omega), HR1.out, HT1.out⟩
      case round =>
        obtain ⟨f, hfg, rfl, hf4, hm, hb, hr, ht⟩ := hrel
        have HM := Lib.hid hm
        have HB := Lib.hid hb
        have HR2 := Lib.hid hr
        have HT2 := Lib.hid ht
        obtain ⟨G2, rfl⟩ : ∃ G2, G2 = gk := ⟨_, rfl⟩
        by_cases hlt : f < 1024
        · have t1 : decide ((f : Int) < 1024) = true := decide_eq_true (by omega)
          obtain ⟨s, hs⟩ : ∃ s, s = f / 32 := ⟨_, rfl⟩
          have q1 : (f : Int).tdiv 32 = (s : Int) := by rw [Int.tdiv_eq_ediv_of_nonneg (by omega)]; omega
          have q2 : (f : Int) / 32 = (s : Int) := by omega
          have hs32 : s < 32 := by omega
          have hs0 : (0 : Int) ≤ (s : Int) := by omega
          have hs1 : (s : Int) < 32 := by omega
          have hfS : f + 16 ≤ 1024 := by omega
          have cz := hr.cz hs32
          have ci := hr.ci hs32
          obtain ⟨zz, hzd⟩ : ∃ zz, zz = p.z.getD s 0 := ⟨_, rfl⟩
          obtain ⟨ii, hid⟩ : ∃ ii, ii = p.i.getD s false := ⟨_, rfl⟩
          rw [← hzd] at cz
          rw [← hid] at ci
          have HIS := Lib.hid (show ((zz = 2 ∧ ii = false) ∧ ∀ j, f ≤ j → j < f + 16 → p.u.getD j 0 = 1) ↔ RunF p 2 16 f from by
            rw [hzd, hid, hs]
            exact ⟨fun h => ⟨HM.out, hlt, h.1.1, h.1.2, h.2⟩, fun h => ⟨⟨h.2.2.1, h.2.2.2.1⟩, h.2.2.2.2⟩⟩)
          clear hm hb hr ht hs hzd hid
          have HS3 : (zz = 2 → Hid ((!ii) = true ↔ (zz = 2 ∧ ii = false) ∧ ∀ j, f ≤ j → j < f → p.u.getD j 0 = 1)) := fun e => Lib.hid ⟨fun h => ⟨⟨e, by simpa using h⟩, fun j h1 h2 => absurd h2 (by omega)⟩, fun h => by simp [h.1.2]⟩
          have HS4 : (zz ≠ 2 → Hid (false = true ↔ (zz = 2 ∧ ii = false) ∧ ∀ j, f ≤ j → j < f → p.u.getD j 0 = 1)) := fun e => Lib.hid ⟨fun h => (by cases h), fun h => absurd h.1.1 e⟩
          obtain ⟨k0, hk0, HKS⟩ : ∃ k0 : Bool, (zz = 2 ∧ k0 = !ii ∨ zz ≠ 2 ∧ k0 = false) ∧ Hid (k0 = true ↔ (zz = 2 ∧ ii = false) ∧ ∀ j, f ≤ j → j < f → p.u.getD j 0 = 1) := by
            by_cases e : zz = 2
            · exact ⟨!ii, .inl ⟨e, rfl⟩, HS3 e⟩
            · exact ⟨false, .inr ⟨e, rfl⟩, HS4 e⟩
          clear HS3 HS4
          rcases hk0 with ⟨hzz, hk0⟩ | ⟨hzz, hk0⟩
          · have t2 : ((zz : Int) == 2) = true := by rw [beq_iff_eq]; omega
            subst hk0
            clear hzz
            go_wp2_with fail
            go_loopg [13, 14] 16 (fun gi s13 s14 wy => ∃ (k : Nat) (ok : Bool), f ≤ k ∧ k + gi = f + 16 ∧ s14 = .int .i64 (k : Int) ∧ s13 = .bool ok ∧ (ok = true ↔ (zz = 2 ∧ ii = false) ∧ ∀ j, f ≤ j → j < k → p.u.getD j 0 = 1) ∧ RefP wy g p ∧ Turns (fun k => k = g) w wy)
            case atStart => exact ⟨f, _, Nat.le_refl _, rfl, rfl, rfl, HKS.out, HR2.out, HT2.out⟩
            case round =>
              obtain ⟨k, ok, hfk, hkg, rfl, rfl, hok, hr, ht⟩ := hrel
              have HOK := Lib.hid hok
              have HR3 := Lib.hid hr
              have HT3 := Lib.hid ht
              clear hok
              by_cases hk : k < f + 16
              · have t4 : decide ((k : Int) < (f : Int) + 16) = true := decide_eq_true (by omega)
                have t5 : (k : Int) < 1024 := by omega
                have t6 : (0 : Int) ≤ (k : Int) := by omega
                have cu := hr.cu (f := k) (by omega)
                obtain ⟨y, hy⟩ : ∃ y, y = p.u.getD k 0 := ⟨_, rfl⟩
                rw [← hy] at cu
                have HY := Lib.hid hy
                have HW := Lib.hid (ones_succ (u := p.u) hfk)
                clear hy hr ht
                cases ok with
                | true =>
                  obtain ⟨h1, h2⟩ := HOK.out.1 rfl
                  have HA1 := Lib.hid h1
                  have HA2 := Lib.hid h2
                  clear HOK h1 h2
                  by_cases hy1 : y = 1
                  · have t7 : ((y : Int) == 1) = true := by rw [beq_iff_eq]; omega
                    have HY1 := Lib.hid hy1
                    clear hy1
                    go_wp2_with fail
                    go_roundg (f + 16 - (k + 1))
                    case measure => omega
                    case rel => exact ⟨k + 1, true, by omega, by omega, by go_num, rfl, ⟨fun _ => ⟨HA1.out, HW.out.2 ⟨HA2.out, by rw [← HY.out]; exact HY1.out⟩⟩, fun _ => rfl⟩, HR3.out, HT3.out⟩
                  · have t7 : ((y : Int) == 1) = false := by rw [beq_eq_false_iff_ne]; omega
                    have HY1 := Lib.hid hy1
                    clear hy1
                    go_wp2_with fail
                    go_roundg (f + 16 - (k + 1))
                    case measure => omega
                    case rel => exact ⟨k + 1, false, by omega, by omega, by go_num, rfl, ⟨fun e => (by cases e), fun h => absurd (HY.out.trans (HW.out.1 h.2).2) HY1.out⟩, HR3.out, HT3.out⟩
                | false =>
                  have HA1 := Lib.hid (show ¬ ((zz = 2 ∧ ii = false) ∧ ∀ j, f ≤ j → j < k → p.u.getD j 0 = 1) from fun h => by have := HOK.out.2 h; cases this)
                  clear HOK
                  go_wp2_with fail
                  go_roundg (f + 16 - (k + 1))
                  case measure => omega
                  case rel => exact ⟨k + 1, false, by omega, by omega, by go_num, rfl, ⟨fun e => (by cases e), fun h => absurd ⟨h.1, (HW.out.1 h.2).1⟩ HA1.out⟩, HR3.out, HT3.out⟩
              · obtain rfl : k = f + 16 := by omega
                have t4 : decide (((f + 16 : Nat) : Int) < (f : Int) + 16) = false := decide_eq_false (by omega)
                have HF := Lib.hid (HOK.out.trans HIS.out)
                clear HOK hr ht
                cases ok with
                | true =>
                  have HRA := Lib.hid (HF.out.1 rfl)
                  clear HF cz ci
                  go_wp2_with fail
                  go_loopg [15] 16 (fun gi s15 wy => ∃ k : Nat, f ≤ k ∧ k + gi = f + 16 ∧ s15 = .int .i64 (k : Int) ∧ RefP wy g ⟨spanU (fun _ => u) p.u f k, p.z, p.i⟩ ∧ Turns (fun k => k = g) w wy)
                  case atStart => exact ⟨f, Nat.le_refl _, rfl, rfl, by rw [spanU_none]; exact HR3.out, HT3.out⟩
                  case round =>
                    obtain ⟨k, hfk2, hkg2, rfl, hr, ht⟩ := hrel
                    have HR4 := Lib.hid hr
                    have HT4 := Lib.hid ht
                    by_cases hk2 : k < f + 16
                    · have t5 : decide ((k : Int) < (f : Int) + 16) = true := decide_eq_true (by omega)
                      have t6 : (k : Int) < 1024 := by omega
                      have t7 : (0 : Int) ≤ (k : Int) := by omega
                      have cu := hr.cu (f := k) (by omega)
                      have fu := hr.fz k
                      have hkl : k < p.u.length := by have := hr.2.u; rw [show (PS.u ⟨spanU (fun _ => u) p.u f k, p.z, p.i⟩) = spanU (fun _ => u) p.u f k from rfl, spanU_length] at this; omega
                      obtain ⟨y, hy⟩ : ∃ y, y = (PS.u ⟨spanU (fun _ => u) p.u f k, p.z, p.i⟩).getD k 0 := ⟨_, rfl⟩
                      rw [← hy] at cu
                      have HSU := Lib.hid (spanU_succ (fun _ => u) p.u f k hfk2 hkl)
                      clear hy hr ht hkl
                      go_wp2_with fail
                      go_roundg (f + 16 - (k + 1))
                      case measure => omega
                      case rel => exact ⟨k + 1, by omega, by omega, by go_num, by rw [HSU.out]; exact HR4.out.su (by omega) (by omega), HT4.out.trans (Turns.of_only ((Only.refl g _).setCell _ _) rfl)⟩
                    · obtain rfl : k = f + 16 := by omega
                      clear hr ht
                      go_wp2
                      go_ret2
                      exact ⟨f, 0, rfl, _, allocIs_2 (o := 4) HU.out (by omega) (H3.out (by omega)) HRA.out HB.out, HR4.out, HT4.out⟩
                | false =>
                  have HRA := Lib.hid (show ¬ RunF p 2 16 f from fun h => by have := HF.out.2 h; cases this)
                  clear HF
                  go_wp2_with fail
                  go_roundg (G2 - 16)
                  case measure => omega
                  case rel => exact ⟨f + 16, by omega, by go_num, by omega, by have := HM.out; omega, next_runF (by omega) HM.out HB.out HRA.out, HR2.out.1 |> fun _ => HR3.out, HT3.out⟩
          · have t2 : ((zz : Int) == 2) = false := by rw [beq_eq_false_iff_ne]; omega
            subst hk0
            clear hzz
            go_wp2_with fail
            go_loopg [13, 14] 16 (fun gi s13 s14 wy => ∃ (k : Nat) (ok : Bool), f ≤ k ∧ k + gi = f + 16 ∧ s14 = .int .i64 (k : Int) ∧ s13 = .bool ok ∧ (ok = true ↔ (zz = 2 ∧ ii = false) ∧ ∀ j, f ≤ j → j < k → p.u.getD j 0 = 1) ∧ RefP wy g p ∧ Turns (fun k => k = g) w wy)
            case atStart => exact ⟨f, _, Nat.le_refl _, rfl, rfl, rfl, HKS.out, HR2.out, HT2.out⟩
            case round =>
              obtain ⟨k, ok, hfk, hkg, rfl, rfl, hok, hr, ht⟩ := hrel
              have HOK := Lib.hid hok
              have HR3 := Lib.hid hr
              have HT3 := Lib.hid ht
              clear hok
              by_cases hk : k < f + 16
              · have t4 : decide ((k : Int) < (f : Int) + 16) = true := decide_eq_true (by omega)
                have t5 : (k : Int) < 1024 := by omega
                have t6 : (0 : Int) ≤ (k : Int) := by omega
                have cu := hr.cu (f := k) (by omega)
                obtain ⟨y, hy⟩ : ∃ y, y = p.u.getD k 0 := ⟨_, rfl⟩
                rw [← hy] at cu
                have HY := Lib.hid hy
                have HW := Lib.hid (ones_succ (u := p.u) hfk)
                clear hy hr ht
                cases ok with
                | true =>
                  obtain ⟨h1, h2⟩ := HOK.out.1 rfl
                  have HA1 := Lib.hid h1
                  have HA2 := Lib.hid h2
                  clear HOK h1 h2
                  by_cases hy1 : y = 1
                  · have t7 : ((y : Int) == 1) = true := by rw [beq_iff_eq]; omega
                    have HY1 := Lib.hid hy1
                    clear hy1
                    go_wp2_with fail
                    go_roundg (f + 16 - (k + 1))
                    case measure => omega
                    case rel => exact ⟨k + 1, true, by omega, by omega, by go_num, rfl, ⟨fun _ => ⟨HA1.out, HW.out.2 ⟨HA2.out, by rw [← HY.out]; exact HY1.out⟩⟩, fun _ => rfl⟩, HR3.out, HT3.out⟩
                  · have t7 : ((y : Int) == 1) = false := by rw [beq_eq_false_iff_ne]; omega
                    have HY1 := Lib.hid hy1
                    clear hy1
                    go_wp2_with fail
                    go_roundg (f + 16 - (k + 1))
                    case measure => omega
                    case rel => exact ⟨k + 1, false, by omega, by omega, by go_num, rfl, ⟨fun e => (by cases e), fun h => absurd (HY.out.trans (HW.out.1 h.2).2) HY1.out⟩, HR3.out, HT3.out⟩
                | false =>
                  have HA1 := Lib.hid (show ¬ ((zz = 2 ∧ ii = false) ∧ ∀ j, f ≤ j → j < k → p.u.getD j 0 = 1) from fun h => by have := HOK.out.2 h; cases this)
                  clear HOK
                  go_wp2_with fail
                  go_roundg (f + 16 - (k + 1))
                  case measure => omega
                  case rel => exact ⟨k + 1, false, by omega, by omega, by go_num, rfl, ⟨fun e => (by cases e), fun h => absurd ⟨h.1, (HW.out.1 h.2).1⟩ HA1.out⟩, HR3.out, HT3.out⟩
              · obtain rfl : k = f + 16 := by omega
                have t4 : decide (((f + 16 : Nat) : Int) < (f : Int) + 16) = false := decide_eq_false (by omega)
                have HF := Lib.hid (HOK.out.trans HIS.out)
                clear HOK hr ht
                cases ok with
                | true =>
                  have HRA := Lib.hid (HF.out.1 rfl)
                  clear HF cz ci
                  go_wp2_with fail
                  go_loopg [15] 16 (fun gi s15 wy => ∃ k : Nat, f ≤ k ∧ k + gi = f + 16 ∧ s15 = .int .i64 (k : Int) ∧ RefP wy g ⟨spanU (fun _ => u) p.u f k, p.z, p.i⟩ ∧ Turns (fun k => k = g) w wy)
                  case atStart => exact ⟨f, Nat.le_refl _, rfl, rfl, by rw [spanU_none]; exact HR3.out, HT3.out⟩
                  case round =>
                    obtain ⟨k, hfk2, hkg2, rfl, hr, ht⟩ := hrel
                    have HR4 := Lib.hid hr
                    have HT4 := Lib.hid ht
                    by_cases hk2 : k < f + 16
                    · have t5 : decide ((k : Int) < (f : Int) + 16) = true := decide_eq_true (by omega)
                      have t6 : (k : Int) < 1024 := by omega
                      have t7 : (0 : Int) ≤ (k : Int) := by omega
                      have cu := hr.cu (f := k) (by omega)
                      have fu := hr.fz k
                      have hkl : k < p.u.length := by have := hr.2.u; rw [show (PS.u ⟨spanU (fun _ => u) p.u f k, p.z, p.i⟩) = spanU (fun _ => u) p.u f k from rfl, spanU_length] at this; omega
                      obtain ⟨y, hy⟩ : ∃ y, y = (PS.u ⟨spanU (fun _ => u) p.u f k, p.z, p.i⟩).getD k 0 := ⟨_, rfl⟩
                      rw [← hy] at cu
                      have HSU := Lib.hid (spanU_succ (fun _ => u) p.u f k hfk2 hkl)
                      clear hy hr ht hkl
                      go_wp2_with fail
                      go_roundg (f + 16 - (k + 1))
                      case measure => omega
                      case rel => exact ⟨k + 1, by omega, by omega, by go_num, by rw [HSU.out]; exact HR4.out.su (by omega) (by omega), HT4.out.trans (Turns.of_only ((Only.refl g _).setCell _ _) rfl)⟩
                    · obtain rfl : k = f + 16 := by omega
                      clear hr ht
                      go_wp2
                      go_ret2
                      exact ⟨f, 0, rfl, _, allocIs_2 (o := 4) HU.out (by omega) (H3.out (by omega)) HRA.out HB.out, HR4.out, HT4.out⟩
                | false =>
                  have HRA := Lib.hid (show ¬ RunF p 2 16 f from fun h => by have := HF.out.2 h; cases this)
                  clear HF
                  go_wp2_with fail
                  go_roundg (G2 - 16)
                  case measure => omega
                  case rel => exact ⟨f + 16, by omega, by go_num, by omega, by have := HM.out; omega, next_runF (by omega) HM.out HB.out HRA.out, HR2.out.1 |> fun _ => HR3.out, HT3.out⟩
        · have t1 : decide ((f : Int) < 1024) = false := decide_eq_false (by omega)
          have HN := Lib.hid (show FirstF p 2 16 none from firstF_none fun x hx => hb x (by omega))
          clear hm hb hr ht
          go_wp2_with fail
          go_roundg 1
          case measure => have := HZG.out; omega
          case rel => exact ⟨1, rfl, by omega, by omega, rfl, HR2.out, HT2.out, fun _ => H3.out (by omega), fun _ => HN.out⟩
    · cases m with
      | false =>
        go_wp2_with fail
        go_roundg 2
        case measure => have := HZG.out; omega
        case rel => exact ⟨2, rfl, by omega, by omega, rfl, HR1.out, HT1.out, fun _ h => (by cases h), fun h => absurd h (by omega)⟩
      | true =>
        go_wp2_with fail
        go_loopg [12] 1056 (fun gg s12 wx => ∃ f : Nat, f + gg = 1056 ∧ s12 = .int .i64 (f : Int) ∧ f ≤ 1024 ∧ f % 16 = 0 ∧ (∀ x, x < f → ¬ RunF p 3 16 x) ∧ RefP wx g p ∧ Turns (fun k => k = g) w wx)
        case atStart => exact ⟨0, rfl, rfl, by omega, rfl, fun x hx => absurd hx (by omega), HR1.out, HT1.out⟩
        case round =>
          obtain ⟨f, hfg, rfl, hf4, hm, hb, hr, ht⟩ := hrel
          have HM := Lib.hid hm
          have HB := Lib.hid hb
          have HR2 := Lib.hid hr
          have HT2 := Lib.hid ht
          obtain ⟨G2, rfl⟩ : ∃ G2, G2 = gk := ⟨_, rfl⟩
          by_cases hlt : f < 1024
          · have t1 : decide ((f : Int) < 1024) = true := decide_eq_true (by omega)
            obtain ⟨s, hs⟩ : ∃ s, s = f / 32 := ⟨_, rfl⟩
            have q1 : (f : Int).tdiv 32 = (s : Int) := by rw [Int.tdiv_eq_ediv_of_nonneg (by omega)]; omega
            have q2 : (f : Int) / 32 = (s : Int) := by omega
            have hs32 : s < 32 := by omega
            have hs0 : (0 : Int) ≤ (s : Int) := by omega
            have hs1 : (s : Int) < 32 := by omega
            have hfS : f + 16 ≤ 1024 := by omega
            have cz := hr.cz hs32
            have ci := hr.ci hs32
            obtain ⟨zz, hzd⟩ : ∃ zz, zz = p.z.getD s 0 := ⟨_, rfl⟩
            obtain ⟨ii, hid⟩ : ∃ ii, ii = p.i.getD s false := ⟨_, rfl⟩
            rw [← hzd] at cz
            rw [← hid] at ci
            have HIS := Lib.hid (show ((zz = 3 ∧ ii = false) ∧ ∀ j, f ≤ j → j < f + 16 → p.u.getD j 0 = 1) ↔ RunF p 3 16 f from by
              rw [hzd, hid, hs]
              exact ⟨fun h => ⟨HM.out, hlt, h.1.1, h.1.2, h.2⟩, fun h => ⟨⟨h.2.2.1, h.2.2.2.1⟩, h.2.2.2.2⟩⟩)
            clear hm hb hr ht hs hzd hid
            have HS3 : (zz = 3 → Hid ((!ii) = true ↔ (zz = 3 ∧ ii = false) ∧ ∀ j, f ≤ j → j < f → p.u.getD j 0 = 1)) := fun e => Lib.hid ⟨fun h => ⟨⟨e, by simpa using h⟩, fun j h1 h2 => absurd h2 (by omega)⟩, fun h => by simp [h.1.2]⟩
            have HS4 : (zz ≠ 3 → Hid (false = true ↔ (zz = 3 ∧ ii = false) ∧ ∀ j, f ≤ j → j < f → p.u.getD j 0 = 1)) := fun e => Lib.hid ⟨fun h => (by cases h), fun h => absurd h.1.1 e⟩
            obtain ⟨k0, hk0, HKS⟩ : ∃ k0 : Bool, (zz = 3 ∧ k0 = !ii ∨ zz ≠ 3 ∧ k0 = false) ∧ Hid (k0 = true ↔ (zz = 3 ∧ ii = false) ∧ ∀ j, f ≤ j → j < f → p.u.getD j 0 = 1) := by
              by_cases e : zz = 3
              · exact ⟨!ii, .inl ⟨e, rfl⟩, HS3 e⟩
              · exact ⟨false, .inr ⟨e, rfl⟩, HS4 e⟩
            clear HS3 HS4
            rcases hk0 with ⟨hzz, hk0⟩ | ⟨hzz, hk0⟩
            · have t2 : ((zz : Int) == 3) = true := by rw [beq_iff_eq]; omega
              subst hk0
              clear hzz
              go_wp2_with fail
              go_loopg [13, 14] 16 (fun gi s13 s14 wy => ∃ (k : Nat) (ok : Bool), f ≤ k ∧ k + gi = f + 16 ∧ s14 = .int .i64 (k : Int) ∧ s13 = .bool ok ∧ (ok = true ↔ (zz = 3 ∧ ii = false) ∧ ∀ j, f ≤ j → j < k → p.u.getD j 0 = 1) ∧ RefP wy g p ∧ Turns (fun k => k = g) w wy)
              case atStart => exact ⟨f, _, Nat.le_refl _, rfl, rfl, rfl, HKS.out, HR2.out, HT2.out⟩
              case round =>
                obtain ⟨k, ok, hfk, hkg, rfl, rfl, hok, hr, ht⟩ := hrel
                have HOK := Lib.hid hok
                have HR3 := Lib.hid hr
                have HT3 := Lib.hid ht
                clear hok
                by_cases hk : k < f + 16
                · have t4 : decide ((k : Int) < (f : Int) + 16) = true := decide_eq_true (by omega)
                  have t5 : (k : Int) < 1024 := by omega
                  have t6 : (0 : Int) ≤ (k : Int) := by omega
                  have cu := hr.cu (f := k) (by omega)
                  obtain ⟨y, hy⟩ : ∃ y, y = p.u.getD k 0 := ⟨_, rfl⟩
                  rw [← hy] at cu
                  have HY := Lib.hid hy
                  have HW := Lib.hid (ones_succ (u := p.u) hfk)
                  clear hy hr ht
                  cases ok with
                  | true =>
                    obtain ⟨h1, h2⟩ := HOK.out.1 rfl
                    have HA1 := Lib.hid h1
                    have HA2 := Lib.hid h2
                    clear HOK h1 h2
                    by_cases hy1 : y = 1
                    · have t7 : ((y : Int) == 1) = true := by rw [beq_iff_eq]; omega
                      have HY1 := Lib.hid hy1
                      clear hy1
                      go_wp2_with fail
                      go_roundg (f + 16 - (k + 1))
                      case measure => omega
                      case rel => exact ⟨k + 1, true, by omega, by omega, by go_num, rfl, ⟨fun _ => ⟨HA1.out, HW.out.2 ⟨HA2.out, by rw [← HY.out]; exact HY1.out⟩⟩, fun _ => rfl⟩, HR3.out, HT3.out⟩
                    · have t7 : ((y : Int) == 1) = false := by rw [beq_eq_false_iff_ne]; omega
                      have HY1 := Lib.hid hy1
                      clear hy1
                      go_wp2_with fail
                      go_roundg (f + 16 - (k + 1))
                      case measure => omega
                      case rel => exact ⟨k + 1, false, by omega, by omega, by go_num, rfl, ⟨fun e => (by cases e), fun h => absurd (HY.out.trans (HW.out.1 h.2).2) HY1.out⟩, HR3.out, HT3.out⟩
                  | false =>
                    have HA1 := Lib.hid (show ¬ ((zz = 3 ∧ ii = false) ∧ ∀ j, f ≤ j → j < k → p.u.getD j 0 = 1) from fun h => by have := HOK.out.2 h; cases this)
                    clear HOK
                    go_wp2_with fail
                    go_roundg (f + 16 - (k + 1))
                    case measure => omega
                    case rel => exact ⟨k + 1, false, by omega, by omega, by go_num, rfl, ⟨fun e => (by cases e), fun h => absurd ⟨h.1, (HW.out.1 h.2).1⟩ HA1.out⟩, HR3.out, HT3.out⟩
                · obtain rfl : k = f + 16 := by omega
                  have t4 : decide (((f + 16 : Nat) : Int) < (f : Int) + 16) = false := decide_eq_false (by omega)
                  have HF := Lib.hid (HOK.out.trans HIS.out)
                  clear HOK hr ht
                  cases ok with
                  | true =>
                    have HRA := Lib.hid (HF.out.1 rfl)
                    clear HF cz ci
                    go_wp2_with fail
                    go_loopg [15] 16 (fun gi s15 wy => ∃ k : Nat, f ≤ k ∧ k + gi = f + 16 ∧ s15 = .int .i64 (k : Int) ∧ RefP wy g ⟨spanU (fun _ => u) p.u f k, p.z, p.i⟩ ∧ Turns (fun k => k = g) w wy)
                    case atStart => exact ⟨f, Nat.le_refl _, rfl, rfl, by rw [spanU_none]; exact HR3.out, HT3.out⟩
                    case round =>
                      obtain ⟨k, hfk2, hkg2, rfl, hr, ht⟩ := hrel
                      have HR4 := Lib.hid hr
                      have HT4 := Lib.hid ht
                      by_cases hk2 : k < f + 16
                      · have t5 : decide ((k : Int) < (f : Int) + 16) = true := decide_eq_true (by omega)
                        have t6 : (k : Int) < 1024 := by omega
                        have t7 : (0 : Int) ≤ (k : Int) := by omega
                        have cu := hr.cu (f := k) (by omega)
                        have fu := hr.fz k
                        have hkl : k < p.u.length := by have := hr.2.u; rw [show (PS.u ⟨spanU (fun _ => u) p.u f k, p.z, p.i⟩) = spanU (fun _ => u) p.u f k from rfl, spanU_length] at this; omega
                        obtain ⟨y, hy⟩ : ∃ y, y = (PS.u ⟨spanU (fun _ => u) p.u f k, p.z, p.i⟩).getD k 0 := ⟨_, rfl⟩
                        rw [← hy] at cu
                        have HSU := Lib.hid (spanU_succ (fun _ => u) p.u f k hfk2 hkl)
                        clear hy hr ht hkl
                        go_wp2_with fail
                        go_roundg (f + 16 - (k + 1))
                        case measure => omega
                        case rel => exact ⟨k + 1, by omega, by omega, by go_num, by rw [HSU.out]; exact HR4.out.su (by omega) (by omega), HT4.out.trans (Turns.of_only ((Only.refl g _).setCell _ _) rfl)⟩
                      · obtain rfl : k = f + 16 := by omega
                        clear hr ht
                        go_wp2
                        go_ret2
                        exact ⟨f, 0, rfl, _, allocIs_3 (o := 4) HU.out (by omega) HRA.out HB.out, HR4.out, HT4.out⟩
                  | false =>
                    have HRA := Lib.hid (show ¬ RunF p 3 16 f from fun h => by have := HF.out.2 h; cases this)
                    clear HF
                    go_wp2_with fail
                    go_roundg (G2 - 16)
                    case measure => omega
                    case rel => exact ⟨f + 16, by omega, by go_num, by omega, by have := HM.out; omega, next_runF (by omega) HM.out HB.out HRA.out, HR2.out.1 |> fun _ => HR3.out, HT3.out⟩
            · have t2 : ((zz : Int) == 3) = false := by rw [beq_eq_false_iff_ne]; omega
              subst hk0
              clear hzz
              go_wp2_with fail
              go_loopg [13, 14] 16 (fun gi s13 s14 wy => ∃ (k : Nat) (ok : Bool), f ≤ k ∧ k + gi = f + 16 ∧ s14 = .int .i64 (k : Int) ∧ s13 = .bool ok ∧ (ok = true ↔ (zz = 3 ∧ ii = false) ∧ ∀ j, f ≤ j → j < k → p.u.getD j 0 = 1) ∧ RefP wy g p ∧ Turns (fun k => k = g) w wy)
              case atStart => exact ⟨f, _, Nat.le_refl _, rfl, rfl, rfl, HKS.out, HR2.out, HT2.out⟩
              case round =>
                obtain ⟨k, ok, hfk, hkg, rfl, rfl, hok, hr, ht⟩ := hrel
                have HOK := Lib.hid hok
                have HR3 := Lib.hid hr
                have HT3 := Lib.hid ht
                clear hok
                by_cases hk : k < f + 16
                · have t4 : decide ((k : Int) < (f : Int) + 16) = true := decide_eq_true (by omega)
                  have t5 : (k : Int) < 1024 := by omega
                  have t6 : (0 : Int) ≤ (k : Int) := by omega
                  have cu := hr.cu (f := k) (by omega)
                  obtain ⟨y, hy⟩ : ∃ y, y = p.u.getD k 0 := ⟨_, rfl⟩
                  rw [← hy] at cu
                  have HY := Lib.hid hy
                  have HW := Lib.hid (ones_succ (u := p.u) hfk)
                  clear hy hr ht
                  cases ok with
                  | true =>
                    obtain ⟨h1, h2⟩ := HOK.out.1 rfl
                    have HA1 := Lib.hid h1
                    have HA2 := Lib.hid h2
                    clear HOK h1 h2
                    by_cases hy1 : y = 1
                    · have t7 : ((y : Int) == 1) = true := by rw [beq_iff_eq]; omega
                      have HY1 := Lib.hid hy1
                      clear hy1
                      go_wp2_with fail
                      go_roundg (f + 16 - (k + 1))
                      case measure => omega
                      case rel => exact ⟨k + 1, true, by omega, by omega, by go_num, rfl, ⟨fun _ => ⟨HA1.out, HW.out.2 ⟨HA2.out, by rw [← HY.out]; exact HY1.out⟩⟩, fun _ => rfl⟩, HR3.out, HT3.out⟩
                    · have t7 : ((y : Int) == 1) = false := by rw [beq_eq_false_iff_ne]; omega
                      have HY1 := Lib.hid hy1
                      clear hy1
                      go_wp2_with fail
                      go_roundg (f + 16 - (k + 1))
                      case measure => omega
                      case rel => exact ⟨k + 1, false, by omega, by omega, by go_num, rfl, ⟨fun e => (by cases e), fun h => absurd (HY.out.trans (HW.out.1 h.2).2) HY1.out⟩, HR3.out, HT3.out⟩
                  | false =>
                    have HA1 := Lib.hid (show ¬ ((zz = 3 ∧ ii = false) ∧ ∀ j, f ≤ j → j < k → p.u.getD j 0 = 1) from fun h => by have := HOK.out.2 h; cases this)
                    clear HOK
                    go_wp2_with fail
                    go_roundg (f + 16 - (k + 1))
                    case measure => omega
                    case rel => exact ⟨k + 1, false, by omega, by omega, by go_num, rfl, ⟨fun e => (by cases e), fun h => absurd ⟨h.1, (HW.out.1 h.2).1⟩ HA1.out⟩, HR3.out, HT3.out⟩
                · obtain rfl : k = f + 16 := by omega
                  have t4 : decide (((f + 16 : Nat) : Int) < (f : Int) + 16) = false := decide_eq_false (by omega)
                  have HF := Lib.hid (HOK.out.trans HIS.out)
                  clear HOK hr ht
                  cases ok with
                  | true =>
                    have HRA := Lib.hid (HF.out.1 rfl)
                    clear HF cz ci
                    go_wp2_with fail
                    go_loopg [15] 16 (fun gi s15 wy => ∃ k : Nat, f ≤ k ∧ k + gi = f + 16 ∧ s15 = .int .i64 (k : Int) ∧ RefP wy g ⟨spanU (fun _ => u) p.u f k, p.z, p.i⟩ ∧ Turns (fun k => k = g) w wy)
                    case atStart => exact ⟨f, Nat.le_refl _, rfl, rfl, by rw [spanU_none]; exact HR3.out, HT3.out⟩
                    case round =>
                      obtain ⟨k, hfk2, hkg2, rfl, hr, ht⟩ := hrel
                      have HR4 := Lib.hid hr
                      have HT4 := Lib.hid ht
                      by_cases hk2 : k < f + 16
                      · have t5 : decide ((k : Int) < (f : Int) + 16) = true := decide_eq_true (by omega)
                        have t6 : (k : Int) < 1024 := by omega
                        have t7 : (0 : Int) ≤ (k : Int) := by omega
                        have cu := hr.cu (f := k) (by omega)
                        have fu := hr.fz k
                        have hkl : k < p.u.length := by have := hr.2.u; rw [show (PS.u ⟨spanU (fun _ => u) p.u f k, p.z, p.i⟩) = spanU (fun _ => u) p.u f k from rfl, spanU_length] at this; omega
                        obtain ⟨y, hy⟩ : ∃ y, y = (PS.u ⟨spanU (fun _ => u) p.u f k, p.z, p.i⟩).getD k 0 := ⟨_, rfl⟩
                        rw [← hy] at cu
                        have HSU := Lib.hid (spanU_succ (fun _ => u) p.u f k hfk2 hkl)
                        clear hy hr ht hkl
                        go_wp2_with fail
                        go_roundg (f + 16 - (k + 1))
                        case measure => omega
                        case rel => exact ⟨k + 1, by omega, by omega, by go_num, by rw [HSU.out]; exact HR4.out.su (by omega) (by omega), HT4.out.trans (Turns.of_only ((Only.refl g _).setCell _ _) rfl)⟩
                      · obtain rfl : k = f + 16 := by omega
                        clear hr ht
                        go_wp2
                        go_ret2
                        exact ⟨f, 0, rfl, _, allocIs_3 (o := 4) HU.out (by omega) HRA.out HB.out, HR4.out, HT4.out⟩
                  | false =>
                    have HRA := Lib.hid (show ¬ RunF p 3 16 f from fun h => by have := HF.out.2 h; cases this)
                    clear HF
                    go_wp2_with fail
                    go_roundg (G2 - 16)
                    case measure => omega
                    case rel => exact ⟨f + 16, by omega, by go_num, by omega, by have := HM.out; omega, next_runF (by omega) HM.out HB.out HRA.out, HR2.out.1 |> fun _ => HR3.out, HT3.out⟩
          · have t1 : decide ((f : Int) < 1024) = false := decide_eq_false (by omega)
            have HN := Lib.hid (show FirstF p 3 16 none from firstF_none fun x hx => hb x (by omega))
            clear hm hb hr ht
            go_wp2_with fail
            go_roundg 2
            case measure => have := HZG.out; omega
            case rel => exact ⟨2, rfl, by omega, by omega, rfl, HR2.out, HT2.out, fun _ _ => HN.out, fun h => absurd h (by omega)⟩
set_option maxRecDepth 100000 in
set_option maxHeartbeats 4000000 in
theorem refAl_5 (g : Nat) (p : PS) (u : Nat) (m : Bool) (w : World) (h : RefP w g p) (hu : 2 ≤ u ∧ u ≤ 5) :
    Calls Try.prog 24 #[.pointer (some ⟨g, 0, none⟩), .int .i64 (u : Int), .int .i64 5, .bool m] w fun e w' => ∃ f er : Nat, e = .returned (.tuple #[.int .i64 (f : Int), .int .i64 (er : Int)]) ∧ ∃ p', AllocIs p (u : Int) 5 m f er p' ∧ RefP w' g p' ∧ Turns (fun k => k = g) w w' := by
  have HR := Lib.hid h
  have HU := Lib.hid hu
  have d1 : decide ((u : Int) < 2) = false := decide_eq_false (by omega)
  have d2 : decide (5 < (u : Int)) = false := decide_eq_false (by omega)
  have hu6 : u ≤ 6 := by omega
  clear h hu
  go_enter Try.func24, Try.ntmps24
  go_wp2_with fail
  clear d1 d2
  go_loopg [11] 3 (fun gg s11 wx => ∃ z : Nat, z = gg ∧ 1 ≤ z ∧ z ≤ 3 ∧ s11 = .int .i64 (z : Int) ∧ RefP wx g p ∧ Turns (fun k => k = g) w wx ∧ (z < 3 → m = true → FirstF p 3 32 none) ∧ (z < 2 → FirstF p 2 32 none))
  case atStart => exact ⟨3, rfl, by omega, by omega, rfl, HR.out, Turns.refl _ _, fun h => absurd h (by omega), fun h => absurd h (by omega)⟩
  case round =>
    obtain ⟨z, hzg, hz1, hz3, rfl, hr, ht, h3, h2⟩ := hrel
    have HR1 := Lib.hid hr
    have HT1 := Lib.hid ht
    have H3 := Lib.hid h3
    have H2 := Lib.hid h2
    obtain ⟨G, rfl⟩ : ∃ G, G = gk := ⟨_, rfl⟩
    have HZG := Lib.hid hzg
    clear hr ht h3 h2 hzg
    have hzc : z = 1 ∨ z = 2 ∨ z = 3 := by omega
    rcases hzc with rfl | rfl | rfl
    · go_wp2
      go_ret2
      exact ⟨0, 4, rfl, p, allocIs_full (o := 5) HU.out (by omega) (H3.out (by omega)) (H2.out (by omega)), HR1.out, HT1.out⟩
    · go_wp2_with fail
      go_loopg [12] 1056 (fun gg s12 wx => ∃ f : Nat, f + gg = 1056 ∧ s12 = .int .i64 (f : Int) ∧ f ≤ 1024 ∧ f % 32 = 0 ∧ (∀ x, x < f → ¬ RunF p 2 32 x) ∧ RefP wx g p ∧ Turns (fun k => k = g) w wx)
      case atStart => exact ⟨0, rfl, rfl, by omega, rfl, fun x hx => absurd hx (by omega), HR1.out, HT1.out⟩
      case round =>
        obtain ⟨f, hfg, rfl, hf4, hm, hb, hr, ht⟩ := hrel
        have HM := Lib.hid hm
        have HB := Lib.hid hb
        have HR2 := Lib.hid hr
        have HT2 := Lib.hid ht
        obtain ⟨G2, rfl⟩ : ∃ G2, G2 = gk := ⟨_, rfl⟩
        by_cases hlt : f < 1024
        · have t1 : decide ((f : Int) < 1024) = true := decide_eq_true (by omega)
          obtain ⟨s, hs⟩ : ∃ s, s = f / 32 := ⟨_, rfl⟩
          have q1 : (f : Int).tdiv 32 = (s : Int) := by rw [Int.tdiv_eq_ediv_of_nonneg (by omega)]; omega
          have q2 : (f : Int) / 32 = (s : Int) := by omega
          have hs32 : s < 32 := by omega
          have hs0 : (0 : Int) ≤ (s : Int) := by omega
          have hs1 : (s : Int) < 32 := by omega
          have hfS : f + 32 ≤ 1024 := by omega
          have cz := hr.cz hs32
          have ci := hr.ci hs32
          obtain ⟨zz, hzd⟩ : ∃ zz, zz = p.z.getD s 0 := ⟨_, rfl⟩
          obtain ⟨ii, hid⟩ : ∃ ii, ii = p.i.getD s false := ⟨_, rfl⟩
          rw [← hzd] at cz
          rw [← hid] at ci
          have HIS := Lib.hid (show ((zz = 2 ∧ ii = false) ∧ ∀ j, f ≤ j → j < f + 32 → p.u.getD j 0 = 1) ↔ RunF p 2 32 f from by
            rw [hzd, hid, hs]
            exact ⟨fun h => ⟨HM.out, hlt, h.1.1, h.1.2, h.2⟩, fun h => ⟨⟨h.2.2.1, h.2.2.2.1⟩, h.2.2.2.2⟩⟩)
          clear hm hb hr ht hs hzd hid
          have HS3 : (zz = 2 → Hid ((!ii) = true ↔ (zz = 2 ∧ ii = false) ∧ ∀ j, f ≤ j → j < f → p.u.getD j 0 = 1)) := fun e => Lib.hid ⟨fun h => ⟨⟨e, by simpa using h⟩, fun j h1 h2 => absurd h2 (by omega)⟩, fun h => by simp [h.1.2]⟩
          have HS4 : (zz ≠ 2 → Hid (false = true ↔ (zz = 2 ∧ ii = false) ∧ ∀ j, f ≤ j → j < f → p.u.getD j 0 = 1)) := fun e => Lib.hid ⟨fun h => (by cases h), fun h => absurd h.1.1 e⟩
          obtain ⟨k0, hk0, HKS⟩ : ∃ k0 : Bool, (zz = 2 ∧ k0 = !ii ∨ zz ≠ 2 ∧ k0 = false) ∧ Hid (k0 = true ↔ (zz = 2 ∧ ii = false) ∧ ∀ j, f ≤ j → j < f → p.u.getD j 0 = 1) := by
            by_cases e : zz = 2
            · exact ⟨!ii, .inl ⟨e, rfl⟩, HS3 e⟩
            · exact ⟨false, .inr ⟨e, rfl⟩, HS4 e⟩
          clear HS3 HS4
          rcases hk0 with ⟨hzz, hk0⟩ | ⟨hzz, hk0⟩
          · have t2 : ((zz : Int) == 2) = true := by rw [beq_iff_eq]; omega
            subst hk0
            clear hzz
            go_wp2_with fail
            go_loopg [13, 14] 32 (fun gi s13 s14 wy => ∃ (k : Nat) (ok : Bool), f ≤ k ∧ k + gi = f + 32 ∧ s14 = .int .i64 (k : Int) ∧ s13 = .bool ok ∧ (ok = true ↔ (zz = 2 ∧ ii = false) ∧ ∀ j, f ≤ j → j < k → p.u.getD j 0 = 1) ∧ RefP wy g p ∧ Turns (fun k => k = g) w wy)
            case atStart => exact ⟨f, _, Nat.le_refl _, rfl, rfl, rfl, HKS.out, HR2.out, HT2.out⟩
            case round =>
              obtain ⟨k, ok, hfk, hkg, rfl, rfl, hok, hr, ht⟩ := hrel
              have HOK := Lib.hid hok
              have HR3 := Lib.hid hr
              have HT3 := Lib.hid ht
              clear hok
              by_cases hk : k < f + 32
              · have t4 : decide ((k : Int) < (f : Int) + 32) = true := decide_eq_true (by omega)
                have t5 : (k : Int) < 1024 := by omega
                have t6 : (0 : Int) ≤ (k : Int) := by omega
                have cu := hr.cu (f := k) (by omega)
                obtain ⟨y, hy⟩ : ∃ y, y = p.u.getD k 0 := ⟨_, rfl⟩
                rw [← hy] at cu
                have HY := Lib.hid hy
                have HW := Lib.hid (ones_succ (u := p.u) hfk)
                clear hy hr ht
                cases ok with
                | true =>
                  obtain ⟨h1, h2⟩ := HOK.out.1 rfl
                  have HA1 := Lib.hid h1
                  have HA2 := Lib.hid h2
                  clear HOK h1 h2
                  by_cases hy1 : y = 1
                  · have t7 : ((y : Int) == 1) = true := by rw [beq_iff_eq]; omega
                    have HY1 := Lib.hid hy1
                    clear hy1
                    go_wp2_with fail
                    go_roundg (f + 32 - (k + 1))
                    case measure => omega
                    case rel => exact ⟨k + 1, true, by omega, by omega, by go_num, rfl, ⟨fun _ => ⟨HA1.out, HW.out.2 ⟨HA2.out, by rw [← HY.out]; exact HY1.out⟩⟩, fun _ => rfl⟩, HR3.out, HT3.out⟩
                  · have t7 : ((y : Int) == 1) = false := by rw [beq_eq_false_iff_ne]; omega
                    have HY1 := Lib.hid hy1
                    clear hy1
                    go_wp2_with fail
                    go_roundg (f + 32 - (k + 1))
                    case measure => omega
                    case rel => exact ⟨k + 1, false, by omega, by omega, by go_num, rfl, ⟨fun e => (by cases e), fun h => absurd (HY.out.trans (HW.out.1 h.2).2) HY1.out⟩, HR3.out, HT3.out⟩
                | false =>
                  have HA1 := Lib.hid (show ¬ ((zz = 2 ∧ ii = false) ∧ ∀ j, f ≤ j → j < k → p.u.getD j 0 = 1) from fun h => by have := HOK.out.2 h; cases this)
                  clear HOK
                  go_wp2_with fail
                  go_roundg (f + 32 - (k + 1))
                  case measure => omega
                  case rel => exact ⟨k + 1, false, by omega, by omega, by go_num, rfl, ⟨fun e => (by cases e), fun h => absurd ⟨h.1, (HW.out.1 h.2).1⟩ HA1.out⟩, HR3.out, HT3.out⟩
              · obtain rfl : k = f + 32 := by omega
                have t4 : decide (((f + 32 : Nat) : Int) < (f : Int) + 32) = false := decide_eq_false (by omega)
                have HF := Lib.hid (HOK.out.trans HIS.out)
                clear HOK hr ht
                cases ok with
                | true =>
                  have HRA := Lib.hid (HF.out.1 rfl)
                  clear HF cz ci
                  go_wp2_with fail
                  go_loopg [15] 32 (fun gi s15 wy => ∃ k : Nat, f ≤ k ∧ k + gi = f + 32 ∧ s15 = .int .i64 (k : Int) ∧ RefP wy g ⟨spanU (fun _ => u) p.u f k, p.z, p.i⟩ ∧ Turns (fun k => k = g) w wy)
                  case atStart => exact ⟨f, Nat.le_refl _, rfl, rfl, by rw [spanU_none]; exact HR3.out, HT3.out⟩
                  case round =>
                    obtain ⟨k, hfk2, hkg2, rfl, hr, ht⟩ := hrel
                    have HR4 := Lib.hid hr
                    have HT4 := Lib.hid ht
                    by_cases hk2 : k < f + 32
                    · have t5 : decide ((k : Int) < (f : Int) + 32) = true := decide_eq_true (by omega)
                      have t6 : (k : Int) < 1024 := by omega
                      have t7 : (0 : Int) ≤ (k : Int) := by omega
                      have cu := hr.cu (f := k) (by omega)
                      have fu := hr.fz k
                      have hkl : k < p.u.length := by have := hr.2.u; rw [show (PS.u ⟨spanU (fun _ => u) p.u f k, p.z, p.i⟩) = spanU (fun _ => u) p.u f k from rfl, spanU_length] at this; omega
                      obtain ⟨y, hy⟩ : ∃ y, y = (PS.u ⟨spanU (fun _ => u) p.u f k, p.z, p.i⟩).getD k 0 := ⟨_, rfl⟩
                      rw [← hy] at cu
                      have HSU := Lib.hid (spanU_succ (fun _ => u) p.u f k hfk2 hkl)
                      clear hy hr ht hkl
                      go_wp2_with fail
                      go_roundg (f + 32 - (k + 1))
                      case measure => omega
                      case rel => exact ⟨k + 1, by omega, by omega, by go_num, by rw [HSU.out]; exact HR4.out.su (by omega) (by omega), HT4.out.trans (Turns.of_only ((Only.refl g _).setCell _ _) rfl)⟩
                    · obtain rfl : k = f + 32 := by omega
                      clear hr ht
                      go_wp2
                      go_ret2
                      exact ⟨f, 0, rfl, _, allocIs_2 (o := 5) HU.out (by omega) (H3.out (by omega)) HRA.out HB.out, HR4.out, HT4.out⟩
                | false =>
                  have HRA := Lib.hid (show ¬ RunF p 2 32 f from fun h => by have := HF.out.2 h; cases this)
                  clear HF
                  go_wp2_with fail
                  go_roundg (G2 - 32)
                  case measure => omega
                  case rel => exact ⟨f + 32, by omega, by go_num, by omega, by have := HM.out; omega, next_runF (by omega) HM.out HB.out HRA.out, HR2.out.1 |> fun _ => HR3.out, HT3.out⟩
          · have t2 : ((zz : Int) == 2) = false := by rw [beq_eq_false_iff_ne]; omega
            subst hk0
            clear hzz
            go_wp2_with fail
            go_loopg [13, 14] 32 (fun gi s13 s14 wy => ∃ (k : Nat) (ok : Bool), f ≤ k ∧ k + gi = f + 32 ∧ s14 = .int .i64 (k : Int) ∧ s13 = .bool ok ∧ (ok = true ↔ (zz = 2 ∧ ii = false) ∧ ∀ j, f ≤ j → j < k → p.u.getD j 0 = 1) ∧ RefP wy g p ∧ Turns (fun k => k = g) w wy)
            case atStart => exact ⟨f, _, Nat.le_refl _, rfl, rfl, rfl, HKS.out, HR2.out, HT2.out⟩
            case round =>
              obtain ⟨k, ok, hfk, hkg, rfl, rfl, hok, hr, ht⟩ := hrel
              have HOK := Lib.hid hok
              have HR3 := Lib.hid hr
              have HT3 := Lib.hid ht
              clear hok
              by_cases hk : k < f + 32
              · have t4 : decide ((k : Int) < (f : Int) + 32) = true := decide_eq_true (by omega)
                have t5 : (k : Int) < 1024 := by omega
                have t6 : (0 : Int) ≤ (k : Int) := by omega
                have cu := hr.cu (f := k) (by omega)
                obtain ⟨y, hy⟩ : ∃ y, y = p.u.getD k 0 := ⟨_, rfl⟩
                rw [← hy] at cu
                have HY := Lib.hid hy
                have HW := Lib.hid (ones_succ (u := p.u) hfk)
                clear hy hr ht
                cases ok with
                | true =>
                  obtain ⟨h1, h2⟩ := HOK.out.1 rfl
                  have HA1 := Lib.hid h1
                  have HA2 := Lib.hid h2
                  clear HOK h1 h2
                  by_cases hy1 : y = 1
                  · have t7 : ((y : Int) == 1) = true := by rw [beq_iff_eq]; omega
                    have HY1 := Lib.hid hy1
                    clear hy1
                    go_wp2_with fail
                    go_roundg (f + 32 - (k + 1))
                    case measure => omega
                    case rel => exact ⟨k + 1, true, by omega, by omega, by go_num, rfl, ⟨fun _ => ⟨HA1.out, HW.out.2 ⟨HA2.out, by rw [← HY.out]; exact HY1.out⟩⟩, fun _ => rfl⟩, HR3.out, HT3.out⟩
                  · have t7 : ((y : Int) == 1) = false := by rw [beq_eq_false_iff_ne]; omega
                    have HY1 := Lib.hid hy1
                    clear hy1
                    go_wp2_with fail
                    go_roundg (f + 32 - (k + 1))
                    case measure => omega
                    case rel => exact ⟨k + 1, false, by omega, by omega, by go_num, rfl, ⟨fun e => (by cases e), fun h => absurd (HY.out.trans (HW.out.1 h.2).2) HY1.out⟩, HR3.out, HT3.out⟩
                | false =>
                  have HA1 := Lib.hid (show ¬ ((zz = 2 ∧ ii = false) ∧ ∀ j, f ≤ j → j < k → p.u.getD j 0 = 1) from fun h => by have := HOK.out.2 h; cases this)
                  clear HOK
                  go_wp2_with fail
                  go_roundg (f + 32 - (k + 1))
                  case measure => omega
                  case rel => exact ⟨k + 1, false, by omega, by omega, by go_num, rfl, ⟨fun e => (by cases e), fun h => absurd ⟨h.1, (HW.out.1 h.2).1⟩ HA1.out⟩, HR3.out, HT3.out⟩
              · obtain rfl : k = f + 32 := by omega
                have t4 : decide (((f + 32 : Nat) : Int) < (f : Int) + 32) = false := decide_eq_false (by omega)
                have HF := Lib.hid (HOK.out.trans HIS.out)
                clear HOK hr ht
                cases ok with
                | true =>
                  have HRA := Lib.hid (HF.out.1 rfl)
                  clear HF cz ci
                  go_wp2_with fail
                  go_loopg [15] 32 (fun gi s15 wy => ∃ k : Nat, f ≤ k ∧ k + gi = f + 32 ∧ s15 = .int .i64 (k : Int) ∧ RefP wy g ⟨spanU (fun _ => u) p.u f k, p.z, p.i⟩ ∧ Turns (fun k => k = g) w wy)
                  case atStart => exact ⟨f, Nat.le_refl _, rfl, rfl, by rw [spanU_none]; exact HR3.out, HT3.out⟩
                  case round =>
                    obtain ⟨k, hfk2, hkg2, rfl, hr, ht⟩ := hrel
                    have HR4 := Lib.hid hr
                    have HT4 := Lib.hid ht
                    by_cases hk2 : k < f + 32
                    · have t5 : decide ((k : Int) < (f : Int) + 32) = true := decide_eq_true (by omega)
                      have t6 : (k : Int) < 1024 := by omega
                      have t7 : (0 : Int) ≤ (k : Int) := by omega
                      have cu := hr.cu (f := k) (by omega)
                      have fu := hr.fz k
                      have hkl : k < p.u.length := by have := hr.2.u; rw [show (PS.u ⟨spanU (fun _ => u) p.u f k, p.z, p.i⟩) = spanU (fun _ => u) p.u f k from rfl, spanU_length] at this; omega
                      obtain ⟨y, hy⟩ : ∃ y, y = (PS.u ⟨spanU (fun _ => u) p.u f k, p.z, p.i⟩).getD k 0 := ⟨_, rfl⟩
                      rw [← hy] at cu
                      have HSU := Lib.hid (spanU_succ (fun _ => u) p.u f k hfk2 hkl)
                      clear hy hr ht hkl
                      go_wp2_with fail
                      go_roundg (f + 32 - (k + 1))
                      case measure => omega
                      case rel => exact ⟨k + 1, by omega, by omega, by go_num, by rw [HSU.out]; exact HR4.out.su (by omega) (by omega), HT4.out.trans (Turns.of_only ((Only.refl g _).setCell _ _) rfl)⟩
                    · obtain rfl : k = f + 32 := by omega
                      clear hr ht
                      go_wp2
                      go_ret2
                      exact ⟨f, 0, rfl, _, allocIs_2 (o := 5) HU.out (by omega) (H3.out (by omega)) HRA.out HB.out, HR4.out, HT4.out⟩
                | false =>
                  have HRA := Lib.hid (show ¬ RunF p 2 32 f from fun h => by have := HF.out.2 h; cases this)
                  clear HF
                  go_wp2_with fail
                  go_roundg (G2 - 32)
                  case measure => omega
                  case rel => exact ⟨f + 32, by omega, by go_num, by omega, by have := HM.out; omega, next_runF (by omega) HM.out HB.out HRA.out, HR2.out.1 |> fun _ => HR3.out, HT3.out⟩
        · have t1 : decide ((f : Int) < 1024) = false := decide_eq_false (by omega)
          have HN := Lib.hid (show FirstF p 2 32 none from firstF_none fun x hx => hb x (by omega))
          clear hm hb hr ht
          go_wp2_with fail
          go_roundg 1
          case measure => have := HZG.out; omega
          case rel => exact ⟨1, rfl, by omega, by omega, rfl, HR2.out, HT2.out, fun _ => H3.out (by omega), fun _ => HN.out⟩
    · cases m with
      | false =>
        go_wp2_with fail
        go_roundg 2
        case measure => have := HZG.out; omega
        case rel => exact ⟨2, rfl, by omega, by omega, rfl, HR1.out, HT1.out, fun _ h => (by cases h), fun h => absurd h (by omega)⟩
      | true =>
        go_wp2_with fail
        go_loopg [12] 1056 (fun gg s12 wx => ∃ f : Nat, f + gg = 1056 ∧ s12 = .int .i64 (f : Int) ∧ f ≤ 1024 ∧ f % 32 = 0 ∧ (∀ x, x < f → ¬ RunF p 3 32 x) ∧ RefP wx g p ∧ Turns (fun k => k = g) w wx)
        case atStart => exact ⟨0, rfl, rfl, by omega, rfl, fun x hx => absurd hx (by omega), HR1.out, HT1.out⟩
        case round =>
          obtain ⟨f, hfg, rfl, hf4, hm, hb, hr, ht⟩ := hrel
          have HM := Lib.hid hm
          have HB := Lib.hid hb
          have HR2 := Lib.hid hr
          have HT2 := Lib.hid ht
          obtain ⟨G2, rfl⟩ : ∃ G2, G2 = gk := ⟨_, rfl⟩
          by_cases hlt : f < 1024
          · have t1 : decide ((f : Int) < 1024) = true := decide_eq_true (by omega)
            obtain ⟨s, hs⟩ : ∃ s, s = f / 32 := ⟨_, rfl⟩
            have q1 : (f : Int).tdiv 32 = (s : Int) := by rw [Int.tdiv_eq_ediv_of_nonneg (by omega)]; omega
            have q2 : (f : Int) / 32 = (s : Int) := by omega
            have hs32 : s < 32 := by omega
            have hs0 : (0 : Int) ≤ (s : Int) := by omega
            have hs1 : (s : Int) < 32 := by omega
            have hfS : f + 32 ≤ 1024 := by omega
            have cz := hr.cz hs32
            have ci := hr.ci hs32
            obtain ⟨zz, hzd⟩ : ∃ zz, zz = p.z.getD s 0 := ⟨_, rfl⟩
            obtain ⟨ii, hid⟩ : ∃ ii, ii = p.i.getD s false := ⟨_, rfl⟩
            rw [← hzd] at cz
            rw [← hid] at ci
            have HIS := Lib.hid (show ((zz = 3 ∧ ii = false) ∧ ∀ j, f ≤ j → j < f + 32 → p.u.getD j 0 = 1) ↔ RunF p 3 32 f from by
              rw [hzd, hid, hs]
              exact ⟨fun h => ⟨HM.out, hlt, h.1.1, h.1.2, h.2⟩, fun h => ⟨⟨h.2.2.1, h.2.2.2.1⟩, h.2.2.2.2⟩⟩)
            clear hm hb hr ht hs hzd hid
            have HS3 : (zz = 3 → Hid ((!ii) = true ↔ (zz = 3 ∧ ii = false) ∧ ∀ j, f ≤ j → j < f → p.u.getD j 0 = 1)) := fun e => Lib.hid ⟨fun h => ⟨⟨e, by simpa using h⟩, fun j h1 h2 => absurd h2 (by omega)⟩, fun h => by simp [h.1.2]⟩
            have HS4 : (zz ≠ 3 → Hid (false = true ↔ (zz = 3 ∧ ii = false) ∧ ∀ j, f ≤ j → j < f → p.u.getD j 0 = 1)) := fun e => Lib.hid ⟨fun h => (by cases h), fun h => absurd h.1.1 e⟩
            obtain ⟨k0, hk0, HKS⟩ : ∃ k0 : Bool, (zz = 3 ∧ k0 = !ii ∨ zz ≠ 3 ∧ k0 = false) ∧ Hid (k0 = true ↔ (zz = 3 ∧ ii = false) ∧ ∀ j, f ≤ j → j < f → p.u.getD j 0 = 1) := by
              by_cases e : zz = 3
              · exact ⟨!ii, .inl ⟨e, rfl⟩, HS3 e⟩
              · exact ⟨false, .inr ⟨e, rfl⟩, HS4 e⟩
            clear HS3 HS4
            rcases hk0 with ⟨hzz, hk0⟩ | ⟨hzz, hk0⟩
            · have t2 : ((zz : Int) == 3) = true := by rw [beq_iff_eq]; omega
              subst hk0
              clear hzz
              go_wp2_with fail
              go_loopg [13, 14] 32 (fun gi s13 s14 wy => ∃ (k : Nat) (ok : Bool), f ≤ k ∧ k + gi = f + 32 ∧ s14 = .int .i64 (k : Int) ∧ s13 = .bool ok ∧ (ok = true ↔ (zz = 3 ∧ ii = false) ∧ ∀ j, f ≤ j → j < k → p.u.getD j 0 = 1) ∧ RefP wy g p ∧ Turns (fun k => k = g) w wy)
              case atStart => exact ⟨f, _, Nat.le_refl _, rfl, rfl, rfl, HKS.out, HR2.out, HT2.out⟩
              case round =>
                obtain ⟨k, ok, hfk, hkg, rfl, rfl, hok, hr, ht⟩ := hrel
                have HOK := Lib.hid hok
                have HR3 := Lib.hid hr
                have HT3 := Lib.hid ht
                clear hok
                by_cases hk : k < f + 32
                · have t4 : decide ((k : Int) < (f : Int) + 32) = true := decide_eq_true (by omega)
                  have t5 : (k : Int) < 1024 := by omega
                  have t6 : (0 : Int) ≤ (k : Int) := by omega
                  have cu := hr.cu (f := k) (by omega)
                  obtain ⟨y, hy⟩ : ∃ y, y = p.u.getD k 0 := ⟨_, rfl⟩
                  rw [← hy] at cu
                  have HY := Lib.hid hy
                  have HW := Lib.hid (ones_succ (u := p.u) hfk)
                  clear hy hr ht
                  cases ok with
                  | true =>
                    obtain ⟨h1, h2⟩ := HOK.out.1 rfl
                    have HA1 := Lib.hid h1
                    have HA2 := Lib.hid h2
                    clear HOK h1 h2
                    by_cases hy1 : y = 1
                    · have t7 : ((y : Int) == 1) = true := by rw [beq_iff_eq]; omega
                      have HY1 := Lib.hid hy1
                      clear hy1
                      go_wp2_with fail
                      go_roundg (f + 32 - (k + 1))
                      case measure => omega
                      case rel => exact ⟨k + 1, true, by omega, by omega, by go_num, rfl, ⟨fun _ => ⟨HA1.out, HW.out.2 ⟨HA2.out, by rw [← HY.out]; exact HY1.out⟩⟩, fun _ => rfl⟩, HR3.out, HT3.out⟩
                    · have t7 : ((y : Int) == 1) = false := by rw [beq_eq_false_iff_ne]; omega
                      have HY1 := Lib.hid hy1
                      clear hy1
                      go_wp2_with fail
                      go_roundg (f + 32 - (k + 1))
                      case measure => omega
                      case rel => exact ⟨k + 1, false, by omega, by omega, by go_num, rfl, ⟨fun e => (by cases e), fun h => absurd (HY.out.trans (HW.out.1 h.2).2) HY1.out⟩, HR3.out, HT3.out⟩
                  | false =>
                    have HA1 := Lib.hid (show ¬ ((zz = 3 ∧ ii = false) ∧ ∀ j, f ≤ j → j < k → p.u.getD j 0 = 1) from fun h => by have := HOK.out.2 h; cases this)
                    clear HOK
                    go_wp2_with fail
                    go_roundg (f + 32 - (k + 1))
                    case measure => omega
                    case rel => exact ⟨k + 1, false, by omega, by omega, by go_num, rfl, ⟨fun e => (by cases e), fun h => absurd ⟨h.1, (HW.out.1 h.2).1⟩ HA1.out⟩, HR3.out, HT3.out⟩
                · obtain rfl : k = f + 32 := by omega
                  have t4 : decide (((f + 32 : Nat) : Int) < (f : Int) + 32) = false := decide_eq_false (by omega)
                  have HF := Lib.hid (HOK.out.trans HIS.out)
                  clear HOK hr ht
                  cases ok with
                  | true =>
                    have HRA := Lib.hid (HF.out.1 rfl)
                    clear HF cz ci
                    go_wp2_with fail
                    go_loopg [15] 32 (fun gi s15 wy => ∃ k : Nat, f ≤ k ∧ k + gi = f + 32 ∧ s15 = .int .i64 (k : Int) ∧ RefP wy g ⟨spanU (fun _ => u) p.u f k, p.z, p.i⟩ ∧ Turns (fun k => k = g) w wy)
                    case atStart => exact ⟨f, Nat.le_refl _, rfl, rfl, by rw [spanU_none]; exact HR3.out, HT3.out⟩
                    case round =>
                      obtain ⟨k, hfk2, hkg2, rfl, hr, ht⟩ := hrel
                      have HR4 := Lib.hid hr
                      have HT4 := Lib.hid ht
                      by_cases hk2 : k < f + 32
                      · have t5 : decide ((k : Int) < (f : Int) + 32) = true := decide_eq_true (by omega)
                        have t6 : (k : Int) < 1024 := by omega
                        have t7 : (0 : Int) ≤ (k : Int) := by omega
                        have cu := hr.cu (f := k) (by omega)
                        have fu := hr.fz k
                        have hkl : k < p.u.length := by have := hr.2.u; rw [show (PS.u ⟨spanU (fun _ => u) p.u f k, p.z, p.i⟩) = spanU (fun _ => u) p.u f k from rfl, spanU_length] at this; omega
                        obtain ⟨y, hy⟩ : ∃ y, y = (PS.u ⟨spanU (fun _ => u) p.u f k, p.z, p.i⟩).getD k 0 := ⟨_, rfl⟩
                        rw [← hy] at cu
                        have HSU := Lib.hid (spanU_succ (fun _ => u) p.u f k hfk2 hkl)
                        clear hy hr ht hkl
                        go_wp2_with fail
                        go_roundg (f + 32 - (k + 1))
                        case measure => omega
                        case rel => exact ⟨k + 1, by omega, by omega, by go_num, by rw [HSU.out]; exact HR4.out.su (by omega) (by omega), HT4.out.trans (Turns.of_only ((Only.refl g _).setCell _ _) rfl)⟩
                      · obtain rfl : k = f + 32 := by omega
                        clear hr ht
                        go_wp2
                        go_ret2
                        exact ⟨f, 0, rfl, _, allocIs_3 (o := 5) HU.out (by omega) HRA.out HB.out, HR4.out, HT4.out⟩
                  | false =>
                    have HRA := Lib.hid (show ¬ RunF p 3 32 f from fun h => by have := HF.out.2 h; cases this)
                    clear HF
                    go_wp2_with fail
                    go_roundg (G2 - 32)
                    case measure => omega
                    case rel => exact ⟨f + 32, by omega, by go_num, by omega, by have := HM.out; omega, next_runF (by omega) HM.out HB.out HRA.out, HR2.out.1 |> fun _ => HR3.out, HT3.out⟩
            · have t2 : ((zz : Int) == 3) = false := by rw [beq_eq_false_iff_ne]; omega
              subst hk0
              clear hzz
              go_wp2_with fail
              go_loopg [13, 14] 32 (fun gi s13 s14 wy => ∃ (k : Nat) (ok : Bool), f ≤ k ∧ k + gi = f + 32 ∧ s14 = .int .i64 (k : Int) ∧ s13 = .bool ok ∧ (ok = true ↔ (zz = 3 ∧ ii = false) ∧ ∀ j, f ≤ j → j < k → p.u.getD j 0 = 1) ∧ RefP wy g p ∧ Turns (fun k => k = g) w wy)
              case atStart => exact ⟨f, _, Nat.le_refl _, rfl, rfl, rfl, HKS.out, HR2.out, HT2.out⟩
              case round =>
                obtain ⟨k, ok, hfk, hkg, rfl, rfl, hok, hr, ht⟩ := hrel
                have HOK := Lib.hid hok
                have HR3 := Lib.hid hr
                have HT3 := Lib.hid ht
                clear hok
                by_cases hk : k < f + 32
                · have t4 : decide ((k : Int) < (f : Int) + 32) = true := decide_eq_true (by omega)
                  have t5 : (k : Int) < 1024 := by omega
                  have t6 : (0 : Int) ≤ (k : Int) := by omega
                  have cu := hr.cu (f := k) (by omega)
                  obtain ⟨y, hy⟩ : ∃ y, y = p.u.getD k 0 := ⟨_, rfl⟩
                  rw [← hy] at cu
                  have HY := Lib.hid hy
                  have HW := Lib.hid (ones_succ (u := p.u) hfk)
                  clear hy hr ht
                  cases ok with
                  | true =>
                    obtain ⟨h1, h2⟩ := HOK.out.1 rfl
                    have HA1 := Lib.hid h1
                    have HA2 := Lib.hid h2
                    clear HOK h1 h2
                    by_cases hy1 : y = 1
                    · have t7 : ((y : Int) == 1) = true := by rw [beq_iff_eq]; omega
                      have HY1 := Lib.hid hy1
                      clear hy1
                      go_wp2_with fail
                      go_roundg (f + 32 - (k + 1))
                      case measure => omega
                      case rel => exact ⟨k + 1, true, by omega, by omega, by go_num, rfl, ⟨fun _ => ⟨HA1.out, HW.out.2 ⟨HA2.out, by rw [← HY.out]; exact HY1.out⟩⟩, fun _ => rfl⟩, HR3.out, HT3.out⟩
                    · have t7 : ((y : Int) == 1) = false := by rw [beq_eq_false_iff_ne]; omega
                      have HY1 := Lib.hid hy1
                      clear hy1
                      go_wp2_with fail
                      go_roundg (f + 32 - (k + 1))
                      case measure => omega
                      case rel => exact ⟨k + 1, false, by omega, by omega, by go_num, rfl, ⟨fun e => (by cases e), fun h => absurd (HY.out.trans (HW.out.1 h.2).2) HY1.out⟩, HR3.out, HT3.out⟩
                  | false =>
                    have HA1 := Lib.hid (show ¬ ((zz = 3 ∧ ii = false) ∧ ∀ j, f ≤ j → j < k → p.u.getD j 0 = 1) from fun h => by have := HOK.out.2 h; cases this)
                    clear HOK
                    go_wp2_with fail
                    go_roundg (f + 32 - (k + 1))
                    case measure => omega
                    case rel => exact ⟨k + 1, false, by omega, by omega, by go_num, rfl, ⟨fun e => (by cases e), fun h => absurd ⟨h.1, (HW.out.1 h.2).1⟩ HA1.out⟩, HR3.out, HT3.out⟩
                · obtain rfl : k = f + 32 := by omega
                  have t4 : decide (((f + 32 : Nat) : Int) < (f : Int) + 32) = false := decide_eq_false (by omega)
                  have HF := Lib.hid (HOK.out.trans HIS.out)
                  clear HOK hr ht
                  cases ok with
                  | true =>
                    have HRA := Lib.hid (HF.out.1 rfl)
                    clear HF cz ci
                    go_wp2_with fail
                    go_loopg [15] 32 (fun gi s15 wy => ∃ k : Nat, f ≤ k ∧ k + gi = f + 32 ∧ s15 = .int .i64 (k : Int) ∧ RefP wy g ⟨spanU (fun _ => u) p.u f k, p.z, p.i⟩ ∧ Turns (fun k => k = g) w wy)
                    case atStart => exact ⟨f, Nat.le_refl _, rfl, rfl, by rw [spanU_none]; exact HR3.out, HT3.out⟩
                    case round =>
                      obtain ⟨k, hfk2, hkg2, rfl, hr, ht⟩ := hrel
                      have HR4 := Lib.hid hr
                      have HT4 := Lib.hid ht
                      by_cases hk2 : k < f + 32
                      · have t5 : decide ((k : Int) < (f : Int) + 32) = true := decide_eq_true (by omega)
                        have t6 : (k : Int) < 1024 := by omega
                        have t7 : (0 : Int) ≤ (k : Int) := by omega
                        have cu := hr.cu (f := k) (by omega)
                        have fu := hr.fz k
                        have hkl : k < p.u.length := by have := hr.2.u; rw [show (PS.u ⟨spanU (fun _ => u) p.u f k, p.z, p.i⟩) = spanU (fun _ => u) p.u f k from rfl, spanU_length] at this; omega
                        obtain ⟨y, hy⟩ : ∃ y, y = (PS.u ⟨spanU (fun _ => u) p.u f k, p.z, p.i⟩).getD k 0 := ⟨_, rfl⟩
                        rw [← hy] at cu
                        have HSU := Lib.hid (spanU_succ (fun _ => u) p.u f k hfk2 hkl)
                        clear hy hr ht hkl
                        go_wp2_with fail
                        go_roundg (f + 32 - (k + 1))
                        case measure => omega
                        case rel => exact ⟨k + 1, by omega, by omega, by go_num, by rw [HSU.out]; exact HR4.out.su (by omega) (by omega), HT4.out.trans (Turns.of_only ((Only.refl g _).setCell _ _) rfl)⟩
                      · obtain rfl : k = f + 32 := by omega
                        clear hr ht
                        go_wp2
                        go_ret2
                        exact ⟨f, 0, rfl, _, allocIs_3 (o := 5) HU.out (by omega) HRA.out HB.out, HR4.out, HT4.out⟩
                  | false =>
                    have HRA := Lib.hid (show ¬ RunF p 3 32 f from fun h => by have := HF.out.2 h; cases this)
                    clear HF
                    go_wp2_with fail
                    go_roundg (G2 - 32)
                    case measure => omega
                    case rel => exact ⟨f + 32, by omega, by go_num, by omega, by have := HM.out; omega, next_runF (by omega) HM.out HB.out HRA.out, HR2.out.1 |> fun _ => HR3.out, HT3.out⟩
          · have t1 : decide ((f : Int) < 1024) = false := decide_eq_false (by omega)
            have HN := Lib.hid (show FirstF p 3 32 none from firstF_none fun x hx => hb x (by omega))
            clear hm hb hr ht
            go_wp2_with fail
            go_roundg 2
            case measure => have := HZG.out; omega
            case rel => exact ⟨2, rfl, by omega, by omega, rfl, HR2.out, HT2.out, fun _ _ => HN.out, fun h => absurd h (by omega)⟩
theorem refAl_any (g : Nat) (p : PS) (use o : Int) (m : Bool) (w : World) (h : RefP w g p) :
    Calls Try.prog 24 #[.pointer (some ⟨g, 0, none⟩), .int .i64 use, .int .i64 o, .bool m] w fun e w' => ∃ f er : Nat, e = .returned (.tuple #[.int .i64 (f : Int), .int .i64 (er : Int)]) ∧ ∃ p', AllocIs p use o m f er p' ∧ RefP w' g p' ∧ Turns (fun k => k = g) w w' := by
  by_cases hc : (use < 2 ∨ 5 < use) ∨ (o < 0 ∨ 5 < o)
  · exact refAl_none g p use o m w h hc
  · obtain ⟨u, rfl⟩ : ∃ u : Nat, use = (u : Int) := ⟨use.toNat, by omega⟩
    have hu : 2 ≤ u ∧ u ≤ 5 := by omega
    have : o = 0 ∨ o = 1 ∨ o = 2 ∨ o = 3 ∨ o = 4 ∨ o = 5 := by omega
    rcases this with rfl | rfl | rfl | rfl | rfl | rfl
    · exact refAl_0 g p u m w h hu
    · exact refAl_1 g p u m w h hu
    · exact refAl_2 g p u m w h hu
    · exact refAl_3 g p u m w h hu
    · exact refAl_4 g p u m w h hu
    · exact refAl_5 g p u m w h hu
end Go.Proofs.Ytkpjimpjopbdkaa
