/-
  The contract of area's piece: an area's pages from one up to another one.
  Conditions: the numbers are small, as each line bears it.
-/
import Derived.Test.YtpkgmmfnlifocaaArK
namespace Go.Proofs.Ytpkgmmfnlifocaa
open Go Go.RowKit
set_option linter.unusedVariables false
/-- An area's pages from one up to another one. -/
def pcA (a : Ar) (f e : Int) : Ar := ⟨f, e - f, a.w, a.kd, a.fl, if a.kd = 1 then a.ofs else a.ofs + (f - a.fr)⟩
/-- The cells of an area as one value. -/
def agA (a : Ar) : Value := .agg #[.int .i64 a.fr, .int .i64 a.pg, .bool a.w, .int .i64 a.kd, .int .i64 a.fl, .int .i64 a.ofs]
set_option maxRecDepth 20000 in
set_option maxHeartbeats 1000000 in
theorem piece_any (a : Ar) (f e : Int) (w : World) (hf : 0 ≤ f ∧ f ≤ 100000) (he : 0 ≤ e ∧ e ≤ 100000) (ha : 0 ≤ a.fr ∧ a.fr ≤ 4096 ∧ 0 ≤ a.ofs ∧ a.ofs ≤ 100000) :
    Calls Try.prog 30 #[.agg #[.int .i64 a.fr, .int .i64 a.pg, .bool a.w, .int .i64 a.kd, .int .i64 a.fl, .int .i64 a.ofs], .int .i64 f, .int .i64 e] w fun r w' => r = .returned (.agg #[.int .i64 (pcA a f e).fr, .int .i64 (pcA a f e).pg, .bool (pcA a f e).w, .int .i64 (pcA a f e).kd, .int .i64 (pcA a f e).fl, .int .i64 (pcA a f e).ofs]) ∧ Below w.heap.size w w' := by
  obtain ⟨fr, pg, w0, kd, fl, ofs⟩ := a
  simp only [pcA] at ha ⊢
  by_cases d1 : kd = 1
  · rw [if_pos d1]
    subst d1
    go_enter Try.func30, Try.ntmps30
    go_wp2
    refine bodyPost_ret (results_cell_row rfl _ _ (w.heap.size + 1) 23 #[.int .i64 f, .int .i64 (e - f), .bool w0, .int .i64 1, .int .i64 fl, .int .i64 ofs] (0, 0) _ rfl (Blk.new1 w _ _ _) Try.underlying23 rfl (by kernel_rfl)) rfl ?_
    exact ⟨rfl, belAr (belAr (Below.refl _ w) _) _⟩


  · rw [if_neg d1]
    have t1 : (kd != 1) = true := by simp [d1]
    go_enter Try.func30, Try.ntmps30
    go_wp2
    refine bodyPost_ret (results_cell_row rfl _ _ (w.heap.size + 1) 23 #[.int .i64 f, .int .i64 (e - f), .bool w0, .int .i64 kd, .int .i64 fl, .int .i64 (ofs + (f - fr))] (0, 0) _ rfl (Blk.new1 w _ _ _) Try.underlying23 rfl (by kernel_rfl)) rfl ?_
    exact ⟨rfl, belAr (belAr (Below.refl _ w) _) _⟩
end Go.Proofs.Ytpkgmmfnlifocaa
