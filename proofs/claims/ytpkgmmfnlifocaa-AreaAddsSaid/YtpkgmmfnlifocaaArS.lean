/-
  Layer 17's own question 'answers', and AreaSound, answer true.
  Conditions: none beside area's contracts.
-/
import Derived.Test.YtpkgmmfnlifocaaArI
import Derived.Test.YtpkgmmfnlifocaaArR
namespace Go.Proofs.Ytpkgmmfnlifocaa
open Go.RowKit
set_option linter.unusedVariables false
set_option maxRecDepth 20000
set_option maxHeartbeats 1600000

theorem areaAnswers_any (w : World) :
    Calls Try.prog 8 #[] w fun e w' => e = .returned (.bool true) ∧ Below w.heap.size w w' := by
  have C1 := Lib.hid (area_add w (.slice none 0 0) [] ⟨2, 5, false, 1, 0, 0⟩ ⟨by decide, by decide, by decide, by decide, by decide⟩ (Gs.nil_ _ _) listA_nil (by decide))
  rw [show addE [] ⟨2, 5, false, 1, 0, 0⟩ = 0 by decide, show addL [] ⟨2, 5, false, 1, 0, 0⟩ = [⟨2, 5, false, 1, 0, 0⟩] by decide] at C1
  go_enter Try.func8, Try.ntmps8
  go_wp2_with fail
  refine C1.out.mono ?_
  rintro e w1 ⟨v1, rfl, h1, hb1⟩
  have B1 := Lib.hid hb1
  have C2 := Lib.hid (area_cut w1 v1 _ 4 1 (by decide) (by decide) h1 (by decide) (by decide))
  rw [show cutE [⟨2, 5, false, 1, 0, 0⟩] 4 1 = 0 by decide, show cutL [⟨2, 5, false, 1, 0, 0⟩] 4 1 = [⟨2, 2, false, 1, 0, 0⟩, ⟨5, 2, false, 1, 0, 0⟩] by decide] at C2
  clear h1 hb1
  go_wp2_with fail
  refine C2.out.mono ?_
  rintro e w2 ⟨v2, rfl, h2, hb2⟩
  have B2 := Lib.hid (B1.out.trans (hb2.mono B1.out.size))
  have C3 := Lib.hid (area_find w2 v2 _ 6 h2 (by decide) (by decide))
  rw [show findA [⟨2, 2, false, 1, 0, 0⟩, ⟨5, 2, false, 1, 0, 0⟩] 6 = some ⟨5, 2, false, 1, 0, 0⟩ by decide] at C3
  obtain ⟨A2, n2, c2, rfl, hn2, -⟩ := h2
  obtain rfl : n2 = 2 := hn2.symm
  clear hb2 hn2
  go_wp2_with fail
  refine C3.out.mono ?_
  rintro e w3 ⟨rfl, hb3⟩
  rw [show (Value.tuple #[.agg (arL ((some (⟨5, 2, false, 1, 0, 0⟩ : Ar)).getD ar0)).toArray, .bool (some (⟨5, 2, false, 1, 0, 0⟩ : Ar)).isSome]) = .tuple #[.agg #[.int .i64 5, .int .i64 2, .bool false, .int .i64 1, .int .i64 0, .int .i64 0], .bool true] from rfl]
  have B3 := Lib.hid (B2.out.trans (hb3.mono B2.out.size))
  have hbl := Blk.new w3 23 #[Value.int .i64 5, .int .i64 2, .bool false, .int .i64 1, .int .i64 0, .int .i64 0]
  have k0 := hbl.cell 0
  have k1 := hbl.cell 1
  clear hbl hb3
  go_wp2
  go_ret
  exact ⟨rfl, belAr B3.out _⟩
theorem areaSound_any (a : Ar) (wa : WAr a) (w : World) :
    Calls Try.prog 3 #[.agg #[.int .i64 a.fr, .int .i64 a.pg, .bool a.w, .int .i64 a.kd, .int .i64 a.fl, .int .i64 a.ofs]] w fun e w' => e = .returned (.bool true) ∧ Below w.heap.size w w' := by
  obtain ⟨S, hS⟩ : ∃ S, S = decide (soundA a) := ⟨_, rfl⟩
  have CA := Lib.hid (fun W => area_sound W a wa)
  have CR := Lib.hid (fun W => refSound_any a W)
  rw [← hS] at CA CR
  obtain ⟨fr, pg, w0, kd, fl, ofs⟩ := a
  clear hS wa
  obtain ⟨W1, hW1⟩ : ∃ W1, W1 = w.alloc (.cells #[.int .i64 fr, .int .i64 pg, .bool w0, .int .i64 kd, .int .i64 fl, .int .i64 ofs] 23) := ⟨_, rfl⟩
  have KB := Lib.hid (Blk.new w 23 #[.int .i64 fr, .int .i64 pg, .bool w0, .int .i64 kd, .int .i64 fl, .int .i64 ofs])
  rw [← hW1] at KB
  have HB := Lib.hid (show Below w.heap.size w W1 from by rw [hW1]; exact belAr (Below.refl _ _) _)
  obtain ⟨g, hg⟩ : ∃ g, g = w.heap.size := ⟨_, rfl⟩
  rw [← hg] at KB
  have KC := Lib.hid (fun (W : World) (hW : Below W1.heap.size W1 W) => (by
    have hb := KB.out.below hW KB.out.lt
    exact ⟨hb.cell 0, hb.cell 1, hb.cell 2, hb.cell 3, hb.cell 4, hb.cell 5⟩ : W.cell? ⟨g, 0, none⟩ = some (.int .i64 fr) ∧ W.cell? ⟨g, 1, none⟩ = some (.int .i64 pg) ∧ W.cell? ⟨g, 2, none⟩ = some (.bool w0) ∧ W.cell? ⟨g, 3, none⟩ = some (.int .i64 kd) ∧ W.cell? ⟨g, 4, none⟩ = some (.int .i64 fl) ∧ W.cell? ⟨g, 5, none⟩ = some (.int .i64 ofs)))
  have CAL := Lib.hid (fun (W : World) (hW : Below W1.heap.size W1 W) => ((areaAnswers_any W).mono (fun e w' h => ⟨h.1, hW.trans (h.2.mono hW.size)⟩) : Calls Try.prog 8 #[] W fun e w' => e = .returned (.bool true) ∧ Below W1.heap.size W1 w'))
  have CAA := Lib.hid (fun (W : World) (hW : Below W1.heap.size W1 W) => ((CA.out W).mono (fun e w' h => ⟨h.1, hW.trans (h.2.mono hW.size)⟩) : Calls Try.prog 9 #[.agg #[.int .i64 fr, .int .i64 pg, .bool w0, .int .i64 kd, .int .i64 fl, .int .i64 ofs]] W fun e w' => e = .returned (.bool S) ∧ Below W1.heap.size W1 w'))
  have CRR := Lib.hid (fun (W : World) (hW : Below W1.heap.size W1 W) => ((CR.out W).mono (fun e w' h => ⟨h.1, hW.trans (h.2.mono hW.size)⟩) : Calls Try.prog 10 #[.agg #[.int .i64 fr, .int .i64 pg, .bool w0, .int .i64 kd, .int .i64 fl, .int .i64 ofs]] W fun e w' => e = .returned (.bool S) ∧ Below W1.heap.size W1 w'))
  have BR := Lib.hid (Below.refl W1.heap.size W1).drew
  have eS : (S == S) = true := by simp
  clear CA CR
  go_enter Try.func3, Try.ntmps3
  go_wp2_with fail
  rw [← hW1, ← hg]
  clear hW1 hg
  go_region_held3 (fun w' => (w'.cell? ⟨g, 0, none⟩ = some (.int .i64 fr) ∧ w'.cell? ⟨g, 1, none⟩ = some (.int .i64 pg) ∧ w'.cell? ⟨g, 2, none⟩ = some (.bool w0) ∧ w'.cell? ⟨g, 3, none⟩ = some (.int .i64 kd) ∧ w'.cell? ⟨g, 4, none⟩ = some (.int .i64 fl) ∧ w'.cell? ⟨g, 5, none⟩ = some (.int .i64 ofs)) ∧ Below W1.heap.size W1 w')
    (first
      | assumption
      | exact ⟨KC.out _ BR.out, BR.out⟩
      | exact ⟨KC.out _ (by assumption), by assumption⟩)
    (first
      | (go_at_call 8; refine (CAL.out _ BR.out).mono ?_; rintro e w' ⟨rfl, hls⟩)
      | (go_at_call 9; refine (CAA.out _ ?_).mono ?_; (first | assumption | exact (And.right (by assumption))); rintro e w' ⟨rfl, hls2⟩)
      | (go_at_call 10; refine (CRR.out _ ?_).mono ?_; (first | assumption | exact (And.right (by assumption))); rintro e w' ⟨rfl, hls3⟩))
  all_goals
    go_wp2
    go_ret
    exact ⟨by simp, HB.out.trans ((by assumption : Below W1.heap.size W1 _).mono HB.out.size)⟩
end Go.Proofs.Ytpkgmmfnlifocaa
