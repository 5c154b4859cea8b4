/-
  The switch of CachePlays: a page is marked.
  Conditions: none beside those that each line bears.
-/
import Derived.Test.YtcfjkppgfjlbbaaCacF
import Derived.Deep.CutRange
import Derived.Deep.CutBlock
import Derived.StillTailTactics
namespace Go.Proofs.Ytcfjkppgfjlbbaa
open Go.RowKit
set_option linter.unusedVariables false

set_option maxRecDepth 100000 in
set_option maxHeartbeats 6400000 in
theorem sw15_c (a : Act) (w W4 : World) (gC ga n : Nat) (es : CS) (v6 v7 v8 : Value) (af pc pg : Int) (ad : Bool) (z : Int) (bz : Bool)
    (h : SwL a (.pointer (some ⟨gC, 0, none⟩)) v6 v7 v8 (.pointer (some ⟨ga, 0, none⟩)) (.int .i64 z) (.bool bz) (.int .i64 1)) (hS : St w W4 gC es es (fun k => k = ga) v6 v7 v8) (hK : Blk W4 ga 32 #[.int .i64 1, .int .i64 af, .int .i64 pc, .int .i64 pg, .bool ad]) (hn : n = es.length) (hn80 : n ≤ 80) (hbz : bz = busyC es af) (hat : At es ⟨pc, pg⟩ z) (hwc : WCs es) (hwk : WPlc ⟨pc, pg⟩) (hwf : W64c af) :
    Runs Try.prog cSw15 a W4 (SwR a w gC n) := by
  obtain ⟨u, rfl⟩ := h.open_
  have OK := Lib.hid hS.t.ok
  obtain ⟨A6, c6, rfl, hc6⟩ := hS.r6.len
  obtain ⟨A7, c7, rfl, hc7⟩ := hS.r7.len
  obtain ⟨A8, c8, rfl, hc8⟩ := hS.r8.len
  rw [← hn] at hc6 hc7 hc8 hS ⊢
  have S4 := Lib.hid hS
  have K4 := Lib.hid hK
  have HN := Lib.hid hn
  have HBZ := Lib.hid hbz
  have AT := Lib.hid hat
  have WE := Lib.hid hwc
  have WK := Lib.hid hwk
  have WF := Lib.hid hwf
  have KC := Lib.hid (fun (j : Nat) (e : Ce) (h : es[j]? = some e) => S4.out.at_ HN.out h)
  have a0 := K4.out.cell 0
  have a1 := K4.out.cell 1
  have a2 := K4.out.cell 2
  have a3 := K4.out.cell 3
  have a4 := K4.out.cell 4
  clear hS hK hn hbz hat hwc hwk hwf h
  unfold Runs
  conv => arg 2; whnf
  have MK := Lib.hid (S4.out.mark ⟨pc, pg⟩ ad WK.out)
  rcases AT.out.cases_ OK.out with ⟨rfl, hh⟩ | ⟨i0, e0, rfl, hh, hi0, hk0, -, hmk⟩
  · rw [markC_no hh, hh] at MK
    clear hh
    go_wp2_with fail
    refine MK.out.mono ?_
    rintro e w5 ⟨rfl, s5, x5⟩
    have S5 := Lib.hid s5
    have K5 := Lib.hid (show Blk w5 ga 32 #[.int .i64 1, .int .i64 af, .int .i64 pc, .int .i64 pg, .bool ad] from (x5 ga rfl).trans K4.out)
    clear s5 x5 a0 a1 a2 a3 a4
    go_wp2_with fail
    exact ⟨es, _, _, _, ⟨rfl, rfl, rfl⟩, rfl, rfl, rfl, by rw [← HN.out]; omega, WE.out, S5.out.without⟩
  · have dz : decide ((0 : Int) ≤ (i0 : Int)) = true := decide_eq_true (by omega)
    have hl0 : i0 < n := by have := (List.getElem?_eq_some_iff.1 hi0).1; have := HN.out; omega
    rw [hmk, hh] at MK
    have HI := Lib.hid hi0
    have v2 : (i0 : Int) < (n : Int) := by omega
    have v3 : (0 : Int) ≤ (i0 : Int) := by omega
    obtain ⟨g6, o6, q6, g7, o7, q7, g8, o8, q8, ⟨e6, e7, e8⟩, -⟩ := KC.out i0 e0 hi0
    cases e6
    cases e7
    cases e8
    clear hh hi0 hk0 hmk
    go_wp2_with fail
    refine MK.out.mono ?_
    rintro e w5 ⟨rfl, s5, x5⟩
    have S5 := Lib.hid s5
    have K5 := Lib.hid (show Blk w5 ga 32 #[.int .i64 1, .int .i64 af, .int .i64 pc, .int .i64 pg, .bool ad] from (x5 ga rfl).trans K4.out)
    clear s5 x5 a0 a1 a2 a3 a4
    obtain ⟨g6', o6', q6', g7', o7', q7', g8', o8', q8', ⟨e6, e7, e8⟩, -, -, -, k4⟩ := S5.out.at_ HN.out HI.out
    cases e6
    cases e7
    cases e8
    have a4 := K5.out.cell 4
    have k5 : w5.frozen? ⟨g8, o8 + i0, none⟩ = false := by
      have h := S5.out.r8
      rw [← HN.out] at h
      exact h.frozen_ (by omega)
    go_wp2_with fail
    exact ⟨es.set i0 ⟨e0.k, e0.f, ad⟩, _, _, _, ⟨rfl, rfl, rfl⟩, rfl, rfl, rfl, by rw [List.length_set, ← HN.out]; omega, WE.out.set_ HI.out, S5.out.store HI.out ad⟩
end Go.Proofs.Ytcfjkppgfjlbbaa
