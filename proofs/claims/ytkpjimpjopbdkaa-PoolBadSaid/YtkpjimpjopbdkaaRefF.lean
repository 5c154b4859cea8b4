/-
  The contract of the document's Offline, and of Used.
  Conditions: none beside RefP's.
-/
import Derived.Test.YtkpjimpjopbdkaaRefP
namespace Go.Proofs.Ytkpjimpjopbdkaa
open Go.RowKit
set_option linter.unusedVariables false

theorem busyU_yes {u : List Nat} {s f : Nat} (h1 : 32 * s ≤ f) (h2 : f < 32 * s + 32) (n1 : u.getD f 0 ≠ 1) (n6 : u.getD f 0 ≠ 6) : busyU u s = true := by
  cases hb : busyU u s with
  | true => rfl
  | false =>
    have := busyU_no.1 hb (f - 32 * s) (by omega)
    rw [show 32 * s + (f - 32 * s) = f by omega] at this
    omega
theorem busyU_of {u : List Nat} {s : Nat} (h : ∀ f, 32 * s ≤ f → f < 32 * s + 32 → u.getD f 0 = 1 ∨ u.getD f 0 = 6) : busyU u s = false :=
  busyU_no.2 fun j hj => h _ (by omega) (by omega)
theorem used_any (y : Nat) (w : World) :
    Calls Try.prog 25 #[.int .i64 (y : Int)] w fun e w' => e = .returned (.bool (decide (2 ≤ y) && decide (y ≤ 5))) ∧ w' = w := by
  by_cases h1 : 2 ≤ y
  · have d1 : decide ((y : Int) ≥ 2) = true := decide_eq_true (by omega)
    have d1' : decide ((2 : Int) ≤ (y : Int)) = true := decide_eq_true (by omega)
    have d2 : decide ((y : Int) ≤ 5) = decide (y ≤ 5) := by apply decide_eq_decide.2; omega
    rw [decide_eq_true h1]
    clear h1
    go_enter Try.func25, Try.ntmps25
    go_wp2
    go_ret
    exact ⟨rfl, rfl⟩
  · have d1 : decide ((y : Int) ≥ 2) = false := decide_eq_false (by omega)
    have d1' : decide ((2 : Int) ≤ (y : Int)) = false := decide_eq_false (by omega)
    rw [decide_eq_false h1]
    clear h1
    go_enter Try.func25, Try.ntmps25
    go_wp2
    go_ret
    exact ⟨rfl, rfl⟩
set_option maxRecDepth 100000 in
set_option maxHeartbeats 2000000 in
theorem refOff_any (g : Nat) (p : PS) (s : Int) (w : World) (h : RefP w g p) :
    Calls Try.prog 23 #[.pointer (some ⟨g, 0, none⟩), .int .i64 s] w fun e w' => e = .returned (.int .i64 (((offP p s).1 : Nat) : Int)) ∧ RefP w' g (offP p s).2 ∧ Turns (fun k => k = g) w w' := by
  have HR := Lib.hid h
  by_cases c1 : s < 0 ∨ 31 < s
  · have e : offP p s = (1, p) := by unfold offP; rw [if_pos c1]
    rw [e]
    clear h e
    by_cases h1 : s < 0
    · have d1 : decide (s < 0) = true := decide_eq_true h1
      clear c1
      go_enter Try.func23, Try.ntmps23
      go_wp2
      go_ret
      exact ⟨rfl, HR.out, Turns.refl _ _⟩
    · have d1 : decide (s < 0) = false := decide_eq_false h1
      have d2 : decide (31 < s) = true := decide_eq_true (by omega)
      clear c1
      go_enter Try.func23, Try.ntmps23
      go_wp2
      go_ret
      exact ⟨rfl, HR.out, Turns.refl _ _⟩
  · obtain ⟨k, rfl⟩ := Int.eq_ofNat_of_zero_le (show 0 ≤ s by omega)
    have hk : k < 32 := by omega
    have cz := h.cz hk
    obtain ⟨zo, hzo⟩ : ∃ zo, zo = p.z.getD k 0 := ⟨_, rfl⟩
    rw [← hzo] at cz
    have d1 : decide ((k : Int) < 0) = false := decide_eq_false (by omega)
    have d2 : decide (31 < (k : Int)) = false := decide_eq_false (by omega)
    have hk0 : (0 : Int) ≤ (k : Int) := by omega
    have hk1 : (k : Int) < 32 := by omega
    by_cases c2 : zo = 0
    · subst c2
      have e : offP p (k : Int) = (2, p) := by
        unfold offP
        rw [if_neg c1, Int.toNat_natCast, if_pos hzo.symm]
      rw [e]
      clear h e hzo c1
      go_enter Try.func23, Try.ntmps23
      go_wp2
      go_ret
      exact ⟨rfl, HR.out, Turns.refl _ _⟩
    · have e : offP p (k : Int) = if busyU p.u k = true then (5, p) else (0, ⟨spanU goneG p.u (32 * k) (32 * k + 32), p.z.set k 0, p.i.set k false⟩) := by
        unfold offP
        rw [if_neg c1, Int.toNat_natCast, if_neg (by rw [← hzo]; exact c2)]
      rw [e]
      have d4 : ((zo : Int) == 0) = false := by rw [beq_eq_false_iff_ne]; omega
      obtain ⟨a, ha⟩ : ∃ a, a = 32 * k := ⟨_, rfl⟩
      have m1 : (32 : Int) * (k : Int) = (a : Int) := by omega
      have hka : a + 32 ≤ 1024 := by omega
      have HY := Lib.hid (show ∀ f, a ≤ f → f < a + 32 → p.u.getD f 0 ≠ 1 → p.u.getD f 0 ≠ 6 → busyU p.u k = true from fun f h1 h2 => busyU_yes (by omega) (by omega))
      have HN := Lib.hid (show (∀ f, a ≤ f → f < a + 32 → p.u.getD f 0 = 1 ∨ p.u.getD f 0 = 6) → busyU p.u k = false from fun h => busyU_of fun f h1 h2 => h f (by omega) (by omega))
      rw [← ha]
      obtain ⟨R, hR⟩ : ∃ R : Nat × PS, R = if busyU p.u k = true then (5, p) else (0, ⟨spanU goneG p.u a (a + 32), p.z.set k 0, p.i.set k false⟩) := ⟨_, rfl⟩
      rw [← hR]
      have HB := Lib.hid (show busyU p.u k = true → R = (5, p) from fun q => by rw [hR, if_pos q])
      have HNB := Lib.hid (show busyU p.u k = false → R = (0, ⟨spanU goneG p.u a (a + 32), p.z.set k 0, p.i.set k false⟩) from fun q => by rw [hR, if_neg (by rw [q]; simp)])
      clear h e hzo c1 c2 ha hR
      go_enter Try.func23, Try.ntmps23
      go_wp2_with fail
      clear cz
      go_loopg [5] 32 (fun gg s5 wr => ∃ f : Nat, f + gg = a + 32 ∧ a ≤ f ∧ s5 = .int .i64 (f : Int) ∧ RefP wr g p ∧ Turns (fun k => k = g) w wr ∧ ∀ j, a ≤ j → j < f → p.u.getD j 0 = 1 ∨ p.u.getD j 0 = 6)
      case atStart => exact ⟨a, rfl, Nat.le_refl _, rfl, HR.out, Turns.refl _ _, fun j h1 h2 => absurd h2 (by omega)⟩
      case round =>
        obtain ⟨f, hfg, haf, rfl, hr, ht, hall⟩ := hrel
        have HR1 := Lib.hid hr
        have HT1 := Lib.hid ht
        have HALL := Lib.hid hall
        by_cases hlt : f < a + 32
        · have t1 : decide ((f : Int) < (a : Int) + 32) = true := decide_eq_true (by omega)
          have hf0 : (0 : Int) ≤ (f : Int) := by omega
          have hf1 : (f : Int) < 1024 := by omega
          have cu := hr.cu (f := f) (by omega)
          obtain ⟨y, hy⟩ : ∃ y, y = p.u.getD f 0 := ⟨_, rfl⟩
          rw [← hy] at cu
          have HYY := Lib.hid hy
          clear hr ht hy hall
          by_cases h1 : y = 1
          · have t2 : ((y : Int) != 1) = false := by subst h1; rfl
            have HA1 := Lib.hid (show ∀ j, a ≤ j → j < f + 1 → p.u.getD j 0 = 1 ∨ p.u.getD j 0 = 6 from fun j q1 q2 => by
              by_cases q : j < f
              · exact HALL.out j q1 q
              · obtain rfl : j = f := by omega
                left; rw [← HYY.out, h1])
            clear h1
            go_wp2_with fail
            go_roundg (a + 32 - (f + 1))
            case measure => omega
            case rel => exact ⟨f + 1, by omega, by omega, by go_num, HR1.out, HT1.out, HA1.out⟩
          · have t2 : ((y : Int) != 1) = true := by rw [bne_iff_ne]; omega
            by_cases h6 : y = 6
            · have t3 : ((y : Int) != 6) = false := by subst h6; rfl
              have HA1 := Lib.hid (show ∀ j, a ≤ j → j < f + 1 → p.u.getD j 0 = 1 ∨ p.u.getD j 0 = 6 from fun j q1 q2 => by
                by_cases q : j < f
                · exact HALL.out j q1 q
                · obtain rfl : j = f := by omega
                  right; rw [← HYY.out, h6])
              clear h1 h6
              go_wp2_with fail
              go_roundg (a + 32 - (f + 1))
              case measure => omega
              case rel => exact ⟨f + 1, by omega, by omega, by go_num, HR1.out, HT1.out, HA1.out⟩
            · have t3 : ((y : Int) != 6) = true := by rw [bne_iff_ne]; omega
              have eb : busyU p.u k = true := HY.out f haf hlt (by rw [← HYY.out]; exact h1) (by rw [← HYY.out]; exact h6)
              have HE := Lib.hid (HB.out eb)
              clear h1 h6 eb
              go_wp2
              go_ret
              rw [HE.out]
              exact ⟨rfl, HR1.out, HT1.out⟩
        · obtain rfl : f = a + 32 := by omega
          have t1 : decide (((a + 32 : Nat) : Int) < (a : Int) + 32) = false := decide_eq_false (by omega)
          have eb : busyU p.u k = false := HN.out fun j q1 q2 => hall j q1 q2
          have HE := Lib.hid (HNB.out eb)
          clear hr ht hall HALL eb
          go_wp2_with fail
          go_loopg [6] 32 (fun gg s6 wx => ∃ f : Nat, f + gg = a + 32 ∧ a ≤ f ∧ s6 = .int .i64 (f : Int) ∧ RefP wx g ⟨spanU goneG p.u a f, p.z, p.i⟩ ∧ Turns (fun k => k = g) w wx)
          case atStart => exact ⟨a, rfl, Nat.le_refl _, rfl, by rw [spanU_none]; exact HR1.out, HT1.out⟩
          case round =>
            obtain ⟨f, hfg, haf, rfl, hr, ht⟩ := hrel
            have HR2 := Lib.hid hr
            have HT2 := Lib.hid ht
            by_cases hlt : f < a + 32
            · have t1 : decide ((f : Int) < (a : Int) + 32) = true := decide_eq_true (by omega)
              have hf0 : (0 : Int) ≤ (f : Int) := by omega
              have hf1 : (f : Int) < 1024 := by omega
              have cu := hr.cu (f := f) (by omega)
              have fu := hr.fz f
              have hul : f < p.u.length := by rw [HR.out.2.u]; omega
              rw [spanU_at _ _ _ _ hul] at cu
              obtain ⟨y, hy⟩ : ∃ y, y = p.u.getD f 0 := ⟨_, rfl⟩
              rw [← hy] at cu
              have HYY := Lib.hid hy
              clear hr ht hy
              by_cases h1 : y = 1
              · have t2 : ((y : Int) == 1) = true := by subst h1; rfl
                have HSU := Lib.hid (show spanU goneG p.u a (f + 1) = (spanU goneG p.u a f).set f 0 from by
                  rw [spanU_succ goneG p.u a f haf hul, ← HYY.out]
                  unfold goneG
                  rw [if_pos h1])
                clear h1
                go_wp2_with fail
                go_roundg (a + 32 - (f + 1))
                case measure => omega
                case rel => exact ⟨f + 1, by omega, by omega, by go_num, by rw [HSU.out]; exact HR2.out.su (v := 0) (by omega) (by omega), HT2.out.trans (Turns.of_only ((Only.refl g _).setCell _ _) rfl)⟩
              · have t2 : ((y : Int) == 1) = false := by rw [beq_eq_false_iff_ne]; omega
                have HSK := Lib.hid (spanU_skip goneG p.u a f haf hul (by rw [← HYY.out]; unfold goneG; rw [if_neg h1]))
                clear h1
                go_wp2_with fail
                go_roundg (a + 32 - (f + 1))
                case measure => omega
                case rel => exact ⟨f + 1, by omega, by omega, by go_num, by rw [HSK.out]; exact HR2.out, HT2.out⟩
            · obtain rfl : f = a + 32 := by omega
              have t1 : decide (((a + 32 : Nat) : Int) < (a : Int) + 32) = false := decide_eq_false (by omega)
              obtain ⟨U, hU⟩ : ∃ U, U = spanU goneG p.u a (a + 32) := ⟨_, rfl⟩
              rw [← hU] at HR2 HE
              have cz := HR2.out.cz hk
              have ci := HR2.out.ci hk
              have fz := HR2.out.fz (1024 + k)
              have fi := HR2.out.fz (1056 + k)
              have HST := Lib.hid (fun (W : World) (hW : RefP W g ⟨U, p.z, p.i⟩) => (show RefP ((W.setCell ⟨g, 1024 + k, none⟩ (.int .i64 0)).setCell ⟨g, 1056 + k, none⟩ (.bool false)) g ⟨U, p.z.set k 0, p.i.set k false⟩ from (hW.sz (v := 0) hk (by omega)).si hk))
              clear hr ht hU
              obtain ⟨zz, hzz⟩ : ∃ zz, zz = (PS.z ⟨U, p.z, p.i⟩).getD k 0 := ⟨_, rfl⟩
              obtain ⟨ii, hii⟩ : ∃ ii, ii = (PS.i ⟨U, p.z, p.i⟩).getD k false := ⟨_, rfl⟩
              rw [← hzz] at cz
              rw [← hii] at ci
              clear hzz hii
              go_wp2_with fail
              go_region_held3 (fun _ => True) (trivial) (fail)
              have HS0 := Lib.hid (HST.out _ HR2.out)
              clear cz fz ci fi
              go_wp2
              go_ret
              rw [HE.out]
              exact ⟨rfl, HS0.out, HT2.out.trans (Turns.of_only (M := fun k => k = g) (((Only.refl g _).setCell _ _).setCell _ _) rfl).drew⟩
end Go.Proofs.Ytkpjimpjopbdkaa
