/-
  The contract of layer 2's own question 'answers': it answers true, and writes nothing that was there.
  Conditions: none.
-/
import Derived.Test.YtlodeejeeldplaaRamD
import Derived.Test.YtlodeejeeldplaaSame
import Derived.WalkLawsBesides
import Derived.Lib.SlBytesConst
import Derived.Lib.SmallJoins
import Derived.Outline
namespace Go.Proofs.Ytlodeejeeldplaa
open Go.RowKit
set_option linter.unusedVariables false

theorem Mem.step {w w' w0 : World} {gR gF n : Nat} {F : Nat → List Nat} {bad : Nat → Bool} (h : Only gF w w') (hb : Below w0.heap.size w0 w) (hg : w0.heap.size ≤ gF) : Below w0.heap.size w0 w' :=
  hb.trans (h.below hg hb.size)

set_option maxHeartbeats 800000 in
theorem ramAnswers_any (w : World) :
    Calls Try.prog 8 #[] w fun e w' => e = .returned (.bool true) ∧ Below w.heap.size w w' := by
  go_enter Try.func8, Try.ntmps8
  go_wp2_with fail
  refine (new_any 2 2 w (by unfold Near; omega)).mono ?_
  rintro e w1 ⟨rfl, hm1, hb1, hz1⟩
  have HM1 := Lib.hid (hm1.alloc (.cells #[.int .u8 120] 5 (1, 2)))
  have HB1 := Lib.hid (hb1.alloc hb1.size (.cells #[.int .u8 120] 5 (1, 2)))
  have hx : Bts (w1.alloc (.cells #[.int .u8 120] 5 (1, 2))) (w1.heap.size + 1) (.slice (some ⟨w1.heap.size, 0, none⟩) 1 1) [120] :=
    ⟨_, 1, 1, rfl, rfl, by simp [maxLen], ⟨by omega, fun h => by cases h⟩, by simp [maxLen], (fun j hj => by match j, hj with | 0, _ => decide), fun _ => ⟨w1.heap.size, 0, rfl, by omega, fun j hj => by
      match j, hj with
      | 0, _ => exact World.cell?_alloc_mark w1 _ _ _ 0⟩⟩
  have hcv := Lib.run_convert_bytes_const (P := Try.prog) w1 31 5 #[.int .u8 120] 1 1 Try.underlying31 Try.underlying5
  have HX := Lib.hid hx
  have HZ1 := Lib.hid hz1
  clear hm1 hb1 hx hz1
  go_wp2_with fail
  refine (write_yes _ _ _ _ _ 1 3 _ _ [120] _ HM1.out (by omega) (by simp) rfl HX.out).mono ?_
  rintro e w2 ⟨rfl, hm2, ho2⟩
  have HM2 := Lib.hid hm2
  have HB2 := Lib.hid (HB1.out.trans (ho2.below (Nat.le_refl _) HB1.out.size))
  clear hm2 ho2
  go_wp2_with fail
  refine (read_yes _ _ _ _ _ 1 3 1 _ HM2.out (by omega) (by omega) rfl).mono ?_
  rintro e w3 ⟨rfl, hk3, hb3, hz3⟩
  have hc3 : w3.cell? ⟨w2.heap.size, 0, none⟩ = some (.int .u8 120) := by rw [hk3.cell]; rfl
  have HM3 := Lib.hid (HM2.out.below hb3 HM2.out.lt.1 HM2.out.lt.2)
  have HB3 := Lib.hid (HB2.out.trans (hb3.mono HB2.out.size))
  have hst : (convert 31 9 (.slice (some ⟨w2.heap.size, 0, none⟩) 1 1)).run Try.prog w3 = .ok (.string ⟨#[120]⟩) w3 :=
    run_convert_bytes_back w3 31 9 5 ⟨w2.heap.size, 0, none⟩ 1 [120] Try.underlying31 Try.underlying5 Try.underlying9 (fun j hj => by
      match j, hj with
      | 0, _ => exact hc3)
  clear hk3 hb3 hz3 hc3 hcv
  go_wp2_with fail
  refine (poison_yes _ _ _ _ _ 0 _ HM3.out (by omega) rfl).mono ?_
  rintro e w4 ⟨rfl, hm4, ho4⟩
  have HM4 := Lib.hid hm4
  have HB4 := Lib.hid (HB3.out.trans (ho4.below (Nat.le_refl _) HB3.out.size))
  clear hm4 ho4 hst
  go_wp2_with fail
  refine (bad_yes _ _ _ _ _ 0 _ HM4.out (by omega)).mono ?_
  rintro e w5 ⟨rfl, rfl⟩
  rw [upd_same]
  go_wp2
  go_ret
  exact ⟨rfl, HB4.out⟩
end Go.Proofs.Ytlodeejeeldplaa
