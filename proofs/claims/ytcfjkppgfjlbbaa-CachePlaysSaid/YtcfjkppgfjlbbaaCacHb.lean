/-
  The switch of CachePlays: a page is put.
  Conditions: none beside those that each line bears.
-/
import Derived.Test.YtcfjkppgfjlbbaaCacF
import Derived.Deep.CutRange
import Derived.Deep.CutBlock
import Derived.StillTailTactics
namespace Go.Proofs.Ytcfjkppgfjlbbaa
open Go.RowKit
set_option linter.unusedVariables false

set_option maxRecDepth 100000 in
set_option maxHeartbeats 6400000 in
theorem sw15_b (a : Act) (w W4 : World) (gC ga n : Nat) (es : CS) (v6 v7 v8 : Value) (af pc pg : Int) (ad : Bool) (z : Int) (bz : Bool)
    (h : SwL a (.pointer (some ⟨gC, 0, none⟩)) v6 v7 v8 (.pointer (some ⟨ga, 0, none⟩)) (.int .i64 z) (.bool bz) (.int .i64 0)) (hS : St w W4 gC es es (fun k => k = ga) v6 v7 v8) (hK : Blk W4 ga 32 #[.int .i64 0, .int .i64 af, .int .i64 pc, .int .i64 pg, .bool ad]) (hn : n = es.length) (hn80 : n ≤ 80) (hbz : bz = busyC es af) (hat : At es ⟨pc, pg⟩ z) (hwc : WCs es) (hwk : WPlc ⟨pc, pg⟩) (hwf : W64c af) (hfr : freeC es ⟨pc, pg⟩ af = true) :
    Runs Try.prog cSw15 a W4 (SwR a w gC n) := by
  obtain ⟨u, rfl⟩ := h.open_
  have OK := Lib.hid hS.t.ok
  obtain ⟨A6, c6, rfl, hc6⟩ := hS.r6.len
  obtain ⟨A7, c7, rfl, hc7⟩ := hS.r7.len
  obtain ⟨A8, c8, rfl, hc8⟩ := hS.r8.len
  rw [← hn] at hc6 hc7 hc8 hS ⊢
  have S4 := Lib.hid hS
  have K4 := Lib.hid hK
  have HN := Lib.hid hn
  have HBZ := Lib.hid hbz
  have AT := Lib.hid hat
  have WE := Lib.hid hwc
  have WK := Lib.hid hwk
  have WF := Lib.hid hwf
  have KC := Lib.hid (fun (j : Nat) (e : Ce) (h : es[j]? = some e) => S4.out.at_ HN.out h)
  have a0 := K4.out.cell 0
  have a1 := K4.out.cell 1
  have a2 := K4.out.cell 2
  have a3 := K4.out.cell 3
  have a4 := K4.out.cell 4
  clear hS hK hn hbz hat hwc hwk hwf h
  have HFR := Lib.hid hfr
  clear hfr
  unfold Runs
  conv => arg 2; whnf
  have PT := Lib.hid (S4.out.put ⟨pc, pg⟩ af WK.out WF.out (by rw [← HN.out]; omega))
  have e1 := HFR.out
  rw [putC_yes e1, e1] at PT
  unfold freeC at e1
  rw [Bool.and_eq_true, Bool.not_eq_true', Bool.not_eq_true', ← HBZ.out] at e1
  obtain ⟨e1, rfl⟩ := e1
  rcases AT.out.cases_ OK.out with ⟨rfl, hh⟩ | ⟨i0, e0, rfl, hh, -, -, -, -⟩
  · clear e1 hh
    go_wp2_with fail
    refine PT.out.mono ?_
    rintro e w5 ⟨rfl, s5, x5⟩
    have S5 := Lib.hid s5
    have K5 := Lib.hid (show Blk w5 ga 32 #[.int .i64 0, .int .i64 af, .int .i64 pc, .int .i64 pg, .bool ad] from (x5 ga rfl).trans K4.out)
    clear s5 x5 a0 a1 a2 a3 a4
    go_upto_region 24 with fail
    obtain ⟨iK, hi, h0, h1, h2⟩ := info_parts Try.infoKey15
    have HKI := Lib.hid hi
    have HK0 := Lib.hid h0
    have HK1 := Lib.hid h1
    have HK2 := Lib.hid h2
    clear hi h0 h1 h2
    obtain ⟨iI, hi, h0, h1, h2⟩ := info_parts Try.infoInt15
    have HII := Lib.hid hi
    have HI0 := Lib.hid h0
    have HI1 := Lib.hid h1
    have HI2 := Lib.hid h2
    clear hi h0 h1 h2
    obtain ⟨iB, hi, h0, h1, h2⟩ := info_parts Try.infoBool15
    have HBI := Lib.hid hi
    have HB0 := Lib.hid h0
    have HB1 := Lib.hid h1
    have HB2 := Lib.hid h2
    clear hi h0 h1 h2
    have HBS := Lib.hid (show w.heap.size ≤ w5.drew.heap.size from S5.out.t.bel.size)
    have HV6 := Lib.hid (fun (k : Nat) (hk : (Value.slice A6 n c6).ownBlock = some k) => (show k < w5.drew.heap.size from (S5.out.r6.lt k hk).2))
    have HO6 := Lib.hid (show ∀ u ∈ [Value.int .i64 pc, Value.int .i64 pg], u.oneCell' = true from flatP_one [⟨pc, pg⟩])
    have HQ6 := Lib.hid (show (n + 1) * 16 ≤ 140737488355328 from by omega)
    have RL6 := Lib.hid (show ∀ w, (Instr.buildSlice 26 1 #[(0, (.agg #[.int .i64 pc, .int .i64 pg]))]).run Try.prog w = .ok (.slice (some ⟨w.heap.size, 0, none⟩) 1 1) (w.alloc (.cells [Value.int .i64 pc, Value.int .i64 pg].toArray 30)) from fun w => by kernel_rfl)
    have HRO6 := Lib.hid (show RowAt w5.drew w.heap.size 2 (.slice A6 n c6) n (kL es) from by have h := S5.out.r6; rw [← HN.out] at h; exact h.fresh (Below.refl w5.heap.size w5).drew)
    have HV7 := Lib.hid (fun (k : Nat) (hk : (Value.slice A7 n c7).ownBlock = some k) => (show k < w5.drew.heap.size from (S5.out.r7.lt k hk).2))
    have HO7 := Lib.hid (show ∀ u ∈ [Value.int .i64 af], u.oneCell' = true from fun u hu => by rw [List.mem_singleton.1 hu]; rfl)
    have HQ7 := Lib.hid (show (n + 1) * 8 ≤ 140737488355328 from by omega)
    have RL7 := Lib.hid (show ∀ w, (Instr.buildSlice 27 1 #[(0, (.int .i64 af))]).run Try.prog w = .ok (.slice (some ⟨w.heap.size, 0, none⟩) 1 1) (w.alloc (.cells [Value.int .i64 af].toArray 3)) from fun w => by kernel_rfl)
    have HRO7 := Lib.hid (show RowAt w5.drew w.heap.size 1 (.slice A7 n c7) n (fL es) from by have h := S5.out.r7; rw [← HN.out] at h; exact h.fresh (Below.refl w5.heap.size w5).drew)
    have HV8 := Lib.hid (fun (k : Nat) (hk : (Value.slice A8 n c8).ownBlock = some k) => (show k < w5.drew.heap.size from (S5.out.r8.lt k hk).2))
    have HO8 := Lib.hid (show ∀ u ∈ [Value.bool false], u.oneCell' = true from fun u hu => by rw [List.mem_singleton.1 hu]; rfl)
    have HQ8 := Lib.hid (show (n + 1) * 1 ≤ 140737488355328 from by omega)
    have RL8 := Lib.hid (show ∀ w, (Instr.buildSlice 28 1 #[(0, (.bool false))]).run Try.prog w = .ok (.slice (some ⟨w.heap.size, 0, none⟩) 1 1) (w.alloc (.cells [Value.bool false].toArray 4)) from fun w => by kernel_rfl)
    have HRO8 := Lib.hid (show RowAt w5.drew w.heap.size 1 (.slice A8 n c8) n (dL es) from by have h := S5.out.r8; rw [← HN.out] at h; exact h.fresh (Below.refl w5.heap.size w5).drew)
    have HQ1 := Lib.hid (show n + 1 ≤ maxLen from by unfold maxLen; omega)
    have HS := Lib.hid (fun (W : World) (T : Turns (Own3 (.slice A6 n c6) (.slice A7 n c7) (.slice A8 n c8)) w5.drew W) => (show (fun w' => w'.cell? ⟨ga, 1, none⟩ = some (.int .i64 af) ∧ w'.cell? ⟨ga, 2, none⟩ = some (.int .i64 pc) ∧ w'.cell? ⟨ga, 3, none⟩ = some (.int .i64 pg)) W from by
      have hB : Blk W ga 32 #[.int .i64 0, .int .i64 af, .int .i64 pc, .int .i64 pg, .bool ad] := T.blk K5.out (fun h => by
        obtain ⟨_, n6, n7, n8⟩ := S5.out.x ga rfl
        rcases h with h | h | h
        · exact n6 h
        · exact n7 h
        · exact n8 h)
      exact ⟨hB.cell 1, hB.cell 2, hB.cell 3⟩))
    have STP := Lib.hid (fun (W : World) (u3 u4 u8 u9 ub uc : Value) (T : Turns (Own3 (.slice A6 n c6) (.slice A7 n c7) (.slice A8 n c8)) w5.drew W) C6 C7 C8 a b c => (S5.out.fresh (Below.refl w5.heap.size w5).drew).put_rows (x := ⟨⟨pc, pg⟩, af, false⟩) (u3 := u3) (u4 := u4) (u8 := u8) (u9 := u9) (ub := ub) (uc := uc) HN.out T C6 C7 C8 a b c)
    refine wp_region_noPanic ?_
    refine wp_region_held_drew (S := (fun w' => w'.cell? ⟨ga, 1, none⟩ = some (.int .i64 af) ∧ w'.cell? ⟨ga, 2, none⟩ = some (.int .i64 pc) ∧ w'.cell? ⟨ga, 3, none⟩ = some (.int .i64 pg))) (by kernel_rfl) ?_ (fun hHeld => ?_)
    · try dsimp only
      exact HS.out _ (Turns.refl _ _)
    refine wpAnyH_take (i := 0) (v := ?v1) rfl (by kernel_rfl) (by kernel_rfl) (by kernel_rfl) (fun _ _ _ h => h) (Or.inl ⟨by rfl, ?hy1⟩) (by assumption) ?rest1
    case hy1 => (intro w hSw; (try dsimp only at hSw); go_simp; try with_reducible rfl)
    try simp only [Act.put, List.getElem_toArray, List.getElem_cons_succ, List.getElem_cons_zero, List.setIfInBounds_toArray, List.set_cons_zero, List.set_cons_succ]
    refine wpAnyH_take (i := 1) (v := ?v2) rfl (by kernel_rfl) (by kernel_rfl) (by kernel_rfl) (fun _ _ _ h => h) (Or.inl ⟨by rfl, ?hy2⟩) (by assumption) ?rest2
    case hy2 => (intro w hSw; (try dsimp only at hSw); go_simp; try with_reducible rfl)
    try simp only [Act.put, List.getElem_toArray, List.getElem_cons_succ, List.getElem_cons_zero, List.setIfInBounds_toArray, List.set_cons_zero, List.set_cons_succ]
    refine wpAnyH_take (i := 2) (v := ?v3) rfl (by kernel_rfl) (by kernel_rfl) (by kernel_rfl) (fun _ _ _ h => h) (Or.inl ⟨by rfl, ?hy3⟩) (by assumption) ?rest3
    case hy3 => (intro w hSw; (try dsimp only at hSw); go_simp; try with_reducible rfl)
    try simp only [Act.put, List.getElem_toArray, List.getElem_cons_succ, List.getElem_cons_zero, List.setIfInBounds_toArray, List.set_cons_zero, List.set_cons_succ]
    refine wpAnyH_take (i := 5) (v := ?v4) rfl (by kernel_rfl) (by kernel_rfl) (by kernel_rfl) (fun _ _ _ h => h) (Or.inl ⟨by rfl, ?hy4⟩) (by assumption) ?rest4
    case hy4 => (intro w hSw; (try dsimp only at hSw); go_simp; try with_reducible rfl)
    try simp only [Act.put, List.getElem_toArray, List.getElem_cons_succ, List.getElem_cons_zero, List.setIfInBounds_toArray, List.set_cons_zero, List.set_cons_succ]
    refine wpAnyH_take (i := 6) (v := ?v5) rfl (by kernel_rfl) (by kernel_rfl) (by kernel_rfl) (fun _ _ _ h => h) (Or.inl ⟨by rfl, ?hy5⟩) (by assumption) ?rest5
    case hy5 => (intro w hSw; (try dsimp only at hSw); go_simp; try with_reducible rfl)
    try simp only [Act.put, List.getElem_toArray, List.getElem_cons_succ, List.getElem_cons_zero, List.setIfInBounds_toArray, List.set_cons_zero, List.set_cons_succ]
    refine wpAnyH_take (i := 7) (v := ?v6) rfl (by kernel_rfl) (by kernel_rfl) (by kernel_rfl) (fun _ _ _ h => h) (Or.inl ⟨by rfl, ?hy6⟩) (by assumption) ?rest6
    case hy6 => (intro w hSw; (try dsimp only at hSw); go_simp; try with_reducible rfl)
    try simp only [Act.put, List.getElem_toArray, List.getElem_cons_succ, List.getElem_cons_zero, List.setIfInBounds_toArray, List.set_cons_zero, List.set_cons_succ]
    refine wpAnyH_take (i := 10) (v := ?v7) rfl (by kernel_rfl) (by kernel_rfl) (by kernel_rfl) (fun _ _ _ h => h) (Or.inl ⟨by rfl, ?hy7⟩) (by assumption) ?rest7
    case hy7 => (intro w hSw; (try dsimp only at hSw); go_simp; try with_reducible rfl)
    try simp only [Act.put, List.getElem_toArray, List.getElem_cons_succ, List.getElem_cons_zero, List.setIfInBounds_toArray, List.set_cons_zero, List.set_cons_succ]
    refine wpAnyH_name (fun a0 ha0 => ?_)
    have e84 : a0.eval (.tmp 84) = (.slice A6 n c6) := by rw [← ha0]; rfl
    have e86 : a0.eval (.tmp 86) = (.agg #[.int .i64 pc, .int .i64 pg]) := by rw [← ha0]; rfl
    have e89 : a0.eval (.tmp 89) = (.slice A7 n c7) := by rw [← ha0]; rfl
    have e91 : a0.eval (.tmp 91) = (.int .i64 af) := by rw [← ha0]; rfl
    have e94 : a0.eval (.tmp 94) = (.slice A8 n c8) := by rw [← ha0]; rfl
    have HSZ := Lib.hid (show 96 < a0.tmps.size from by rw [← ha0]; exact (by decide : 96 < 291))
    clear hHeld
    refine wpAnyH_inv (fuel := 3) (I24 a0 w5.drew w.heap.size n (.slice A6 n c6) (.slice A7 n c7) (.slice A8 n c8) (kL es) (fL es) (dL es) [Value.int .i64 pc, Value.int .i64 pg] [Value.int .i64 af] [Value.bool false]) ?base ?step 6 _ _ _ ?init
    case init => exact ⟨false, false, false, false, false, false, _, _, _, _, _, _, rfl, (tri_own a0).symm, rfl, ⟨fun _ => HRO6.out, fun h => (by cases h), fun h => (by cases h)⟩, ⟨fun _ => HRO7.out, fun h => (by cases h), fun h => (by cases h)⟩, ⟨fun _ => HRO8.out, fun h => (by cases h), fun h => (by cases h)⟩, Turns.refl _ _, (fun h => by cases h), (fun h => by cases h), (fun h => by cases h), (fun h => by cases h), (fun h => by cases h)⟩
    case step =>
      intro m listed a W hI
      obtain ⟨b3, b4, b8, b9, bb, bc, u3, u4, u8, u9, ub, uc, rfl, rfl, hm, C6, C7, C8, T, N67, N68, N78, O1, O2⟩ := hI
      have hsW : w5.drew.heap.size ≤ W.heap.size := T.size
      clear ha0
      rcases C6.shape with ⟨rfl, rfl⟩ | ⟨rfl, rfl⟩ | ⟨rfl, rfl⟩
      · rcases C7.shape with ⟨rfl, rfl⟩ | ⟨rfl, rfl⟩ | ⟨rfl, rfl⟩
        · rcases C8.shape with ⟨rfl, rfl⟩ | ⟨rfl, rfl⟩ | ⟨rfl, rfl⟩
          · refine ready_step (rs := [3, 8, 11]) (by kernel_rfl) (by decide) ?_
            refine all_cons ?_ (all_cons ?_ (all_cons ?_ all_nil))
            · refine wpOp_step rfl (fun K' hK => ?_)
              refine step_lit rfl (.tmp 86) 26 30 rfl (.agg #[.int .i64 pc, .int .i64 pg]) [Value.int .i64 pc, Value.int .i64 pg] RL6.out ((tri_eval _ _ _ _ _ _ _ (by decide)).trans e86) ?_
              have T' := T.trans (Turns.of_below ((Below.refl W.heap.size W).alloc (Nat.le_refl _) (.cells [Value.int .i64 pc, Value.int .i64 pg].toArray 30)) (Nat.le_refl _))
              exact hK _ _ ⟨HS.out _ T', true, false, false, false, false, false, _, _, _, _, _, _, rfl, tri_87 _ _ _ _ _ _ _ _, (by have h : m + 1 = 6 := hm; omega : m = 5), C6.doLit hsW, C7.keep (World.grownBy_alloc _ _ none) (fun k h => by cases h) (fun k h e => by cases e), C8.keep (World.grownBy_alloc _ _ none) (fun k h => by cases h) (fun k h e => by cases e), T', (fun h => by cases h), (fun h => by cases h), N78, (fun h => by cases h), (fun h => by cases h)⟩
            · refine wpOp_step rfl (fun K' hK => ?_)
              refine step_lit rfl (.tmp 91) 27 3 rfl (.int .i64 af) [Value.int .i64 af] RL7.out ((tri_eval _ _ _ _ _ _ _ (by decide)).trans e91) ?_
              have T' := T.trans (Turns.of_below ((Below.refl W.heap.size W).alloc (Nat.le_refl _) (.cells [Value.int .i64 af].toArray 3)) (Nat.le_refl _))
              exact hK _ _ ⟨HS.out _ T', false, false, true, false, false, false, _, _, _, _, _, _, rfl, tri_92 _ _ _ _ _ _ _ _, (by have h : m + 1 = 6 := hm; omega : m = 5), C6.keep (World.grownBy_alloc _ _ none) (fun k h => by cases h) (fun k h e => by cases e), C7.doLit hsW, C8.keep (World.grownBy_alloc _ _ none) (fun k h => by cases h) (fun k h e => by cases e), T', (fun _ h => by cases h), N68, (fun h => by cases h), (fun h => by cases h), (fun h => by cases h)⟩
            · refine wpOp_step rfl (fun K' hK => ?_)
              refine step_lit rfl (.const (.bool false)) 28 4 rfl (.bool false) [Value.bool false] RL8.out rfl ?_
              have T' := T.trans (Turns.of_below ((Below.refl W.heap.size W).alloc (Nat.le_refl _) (.cells [Value.bool false].toArray 4)) (Nat.le_refl _))
              exact hK _ _ ⟨HS.out _ T', false, false, false, false, true, false, _, _, _, _, _, _, rfl, tri_95 _ _ _ _ _ _ _ _, (by have h : m + 1 = 6 := hm; omega : m = 5), C6.keep (World.grownBy_alloc _ _ none) (fun k h => by cases h) (fun k h e => by cases e), C7.keep (World.grownBy_alloc _ _ none) (fun k h => by cases h) (fun k h e => by cases e), C8.doLit hsW, T', N67, (fun _ h => by cases h), (fun _ h => by cases h), (fun h => by cases h), (fun h => by cases h)⟩
          · refine ready_step (rs := [3, 8]) (by kernel_rfl) (by decide) ?_
            refine all_cons ?_ (all_cons ?_ all_nil)
            · refine wpOp_step rfl (fun K' hK => ?_)
              refine step_lit rfl (.tmp 86) 26 30 rfl (.agg #[.int .i64 pc, .int .i64 pg]) [Value.int .i64 pc, Value.int .i64 pg] RL6.out ((tri_eval _ _ _ _ _ _ _ (by decide)).trans e86) ?_
              have T' := T.trans (Turns.of_below ((Below.refl W.heap.size W).alloc (Nat.le_refl _) (.cells [Value.int .i64 pc, Value.int .i64 pg].toArray 30)) (Nat.le_refl _))
              exact hK _ _ ⟨HS.out _ T', true, false, false, false, true, false, _, _, _, _, _, _, rfl, tri_87 _ _ _ _ _ _ _ _, (by have h : m + 1 = 5 := hm; omega : m = 4), C6.doLit hsW, C7.keep (World.grownBy_alloc _ _ none) (fun k h => by cases h) (fun k h e => by cases e), C8.keep (World.grownBy_alloc _ _ none) (fun k h => by cases h) (fun k h e => by cases e), T', (fun h => by cases h), (fun h => by cases h), N78, (fun h => by cases h), (fun h => by cases h)⟩
            · refine wpOp_step rfl (fun K' hK => ?_)
              refine step_lit rfl (.tmp 91) 27 3 rfl (.int .i64 af) [Value.int .i64 af] RL7.out ((tri_eval _ _ _ _ _ _ _ (by decide)).trans e91) ?_
              have T' := T.trans (Turns.of_below ((Below.refl W.heap.size W).alloc (Nat.le_refl _) (.cells [Value.int .i64 af].toArray 3)) (Nat.le_refl _))
              exact hK _ _ ⟨HS.out _ T', false, false, true, false, true, false, _, _, _, _, _, _, rfl, tri_92 _ _ _ _ _ _ _ _, (by have h : m + 1 = 5 := hm; omega : m = 4), C6.keep (World.grownBy_alloc _ _ none) (fun k h => by cases h) (fun k h e => by cases e), C7.doLit hsW, C8.keep (World.grownBy_alloc _ _ none) (fun k h => by cases h) (fun k h e => by cases e), T', (fun _ h => by cases h), N68, (fun h => by cases h), (fun h => by cases h), (fun h => by cases h)⟩
          · exact absurd (O2 rfl) (by decide)
        · rcases C8.shape with ⟨rfl, rfl⟩ | ⟨rfl, rfl⟩ | ⟨rfl, rfl⟩
          · refine ready_step (rs := [3, 11]) (by kernel_rfl) (by decide) ?_
            refine all_cons ?_ (all_cons ?_ all_nil)
            · refine wpOp_step rfl (fun K' hK => ?_)
              refine step_lit rfl (.tmp 86) 26 30 rfl (.agg #[.int .i64 pc, .int .i64 pg]) [Value.int .i64 pc, Value.int .i64 pg] RL6.out ((tri_eval _ _ _ _ _ _ _ (by decide)).trans e86) ?_
              have T' := T.trans (Turns.of_below ((Below.refl W.heap.size W).alloc (Nat.le_refl _) (.cells [Value.int .i64 pc, Value.int .i64 pg].toArray 30)) (Nat.le_refl _))
              exact hK _ _ ⟨HS.out _ T', true, false, true, false, false, false, _, _, _, _, _, _, rfl, tri_87 _ _ _ _ _ _ _ _, (by have h : m + 1 = 5 := hm; omega : m = 4), C6.doLit hsW, C7.keep (World.grownBy_alloc _ _ none) (fun k h => by cases h) (fun k h e => by cases e), C8.keep (World.grownBy_alloc _ _ none) (fun k h => by cases h) (fun k h e => by cases e), T', (fun h => by cases h), (fun h => by cases h), N78, (fun h => by cases h), (fun h => by cases h)⟩
            · refine wpOp_step rfl (fun K' hK => ?_)
              refine step_lit rfl (.const (.bool false)) 28 4 rfl (.bool false) [Value.bool false] RL8.out rfl ?_
              have T' := T.trans (Turns.of_below ((Below.refl W.heap.size W).alloc (Nat.le_refl _) (.cells [Value.bool false].toArray 4)) (Nat.le_refl _))
              exact hK _ _ ⟨HS.out _ T', false, false, true, false, true, false, _, _, _, _, _, _, rfl, tri_95 _ _ _ _ _ _ _ _, (by have h : m + 1 = 5 := hm; omega : m = 4), C6.keep (World.grownBy_alloc _ _ none) (fun k h => by cases h) (fun k h e => by cases e), C7.keep (World.grownBy_alloc _ _ none) (fun k h => by cases h) (fun k h e => by cases e), C8.doLit hsW, T', N67, (fun _ h => by cases h), (fun _ h => by cases h), (fun h => by cases h), (fun h => by cases h)⟩
          · refine ready_step (rs := [3]) (by kernel_rfl) (by decide) ?_
            refine all_cons ?_ all_nil
            · refine wpOp_step rfl (fun K' hK => ?_)
              refine step_lit rfl (.tmp 86) 26 30 rfl (.agg #[.int .i64 pc, .int .i64 pg]) [Value.int .i64 pc, Value.int .i64 pg] RL6.out ((tri_eval _ _ _ _ _ _ _ (by decide)).trans e86) ?_
              have T' := T.trans (Turns.of_below ((Below.refl W.heap.size W).alloc (Nat.le_refl _) (.cells [Value.int .i64 pc, Value.int .i64 pg].toArray 30)) (Nat.le_refl _))
              exact hK _ _ ⟨HS.out _ T', true, false, true, false, true, false, _, _, _, _, _, _, rfl, tri_87 _ _ _ _ _ _ _ _, (by have h : m + 1 = 4 := hm; omega : m = 3), C6.doLit hsW, C7.keep (World.grownBy_alloc _ _ none) (fun k h => by cases h) (fun k h e => by cases e), C8.keep (World.grownBy_alloc _ _ none) (fun k h => by cases h) (fun k h e => by cases e), T', (fun h => by cases h), (fun h => by cases h), N78, (fun h => by cases h), (fun h => by cases h)⟩
          · exact absurd (O2 rfl) (by decide)
        · rcases C8.shape with ⟨rfl, rfl⟩ | ⟨rfl, rfl⟩ | ⟨rfl, rfl⟩
          · exact absurd (O1 rfl) (by decide)
          · exact absurd (O1 rfl) (by decide)
          · exact absurd (O1 rfl) (by decide)
      · rcases C7.shape with ⟨rfl, rfl⟩ | ⟨rfl, rfl⟩ | ⟨rfl, rfl⟩
        · rcases C8.shape with ⟨rfl, rfl⟩ | ⟨rfl, rfl⟩ | ⟨rfl, rfl⟩
          · refine ready_step (rs := [4, 8, 11]) (by kernel_rfl) (by decide) ?_
            refine all_cons ?_ (all_cons ?_ (all_cons ?_ all_nil))
            · obtain ⟨v', W', hr, hc, hg, hon⟩ := C6.doApp hsW HV6.out HBS.out 26 26 iK (.agg (plV pl0)) 16 Try.underlying26 HKI.out HK0.out HK1.out HK2.out rfl (by decide) rfl HO6.out HQ1.out HQ6.out
              refine wpOp_step rfl (fun K' hK => ?_)
              refine step_append_run rfl (.tmp 84) (.tmp 87) 26 rfl (.slice A6 n c6) u3 ((tri_eval _ _ _ _ _ _ _ (by decide)).trans e84) (tri_eval_87 _ _ _ _ _ _ _ HSZ.out) v' W' hr ?_
              have T' := T.trans (Turns.of_grown hg (fun k h => .inl h))
              exact hK _ _ ⟨HS.out _ T', true, true, false, false, false, false, _, _, _, _, _, _, rfl, tri_88 _ _ _ _ _ _ _ _, (by have h : m + 1 = 5 := hm; omega : m = 4), hc, C7.keep hg (fun k h => HV6.out k h) (Apt.symm S5.out.n67), C8.keep hg (fun k h => HV6.out k h) (Apt.symm S5.out.n68), T', (fun _ h => by cases h), (fun _ h => by cases h), N78, (fun _ => rfl), (fun h => by cases h)⟩
            · refine wpOp_step rfl (fun K' hK => ?_)
              refine step_lit rfl (.tmp 91) 27 3 rfl (.int .i64 af) [Value.int .i64 af] RL7.out ((tri_eval _ _ _ _ _ _ _ (by decide)).trans e91) ?_
              have T' := T.trans (Turns.of_below ((Below.refl W.heap.size W).alloc (Nat.le_refl _) (.cells [Value.int .i64 af].toArray 3)) (Nat.le_refl _))
              exact hK _ _ ⟨HS.out _ T', true, false, true, false, false, false, _, _, _, _, _, _, rfl, tri_92 _ _ _ _ _ _ _ _, (by have h : m + 1 = 5 := hm; omega : m = 4), C6.keep (World.grownBy_alloc _ _ none) (fun k h => by cases h) (fun k h e => by cases e), C7.doLit hsW, C8.keep (World.grownBy_alloc _ _ none) (fun k h => by cases h) (fun k h e => by cases e), T', (fun _ h => by cases h), N68, (fun h => by cases h), (fun h => by cases h), (fun h => by cases h)⟩
            · refine wpOp_step rfl (fun K' hK => ?_)
              refine step_lit rfl (.const (.bool false)) 28 4 rfl (.bool false) [Value.bool false] RL8.out rfl ?_
              have T' := T.trans (Turns.of_below ((Below.refl W.heap.size W).alloc (Nat.le_refl _) (.cells [Value.bool false].toArray 4)) (Nat.le_refl _))
              exact hK _ _ ⟨HS.out _ T', true, false, false, false, true, false, _, _, _, _, _, _, rfl, tri_95 _ _ _ _ _ _ _ _, (by have h : m + 1 = 5 := hm; omega : m = 4), C6.keep (World.grownBy_alloc _ _ none) (fun k h => by cases h) (fun k h e => by cases e), C7.keep (World.grownBy_alloc _ _ none) (fun k h => by cases h) (fun k h e => by cases e), C8.doLit hsW, T', N67, (fun _ h => by cases h), (fun _ h => by cases h), (fun h => by cases h), (fun h => by cases h)⟩
          · refine ready_step (rs := [4, 8]) (by kernel_rfl) (by decide) ?_
            refine all_cons ?_ (all_cons ?_ all_nil)
            · obtain ⟨v', W', hr, hc, hg, hon⟩ := C6.doApp hsW HV6.out HBS.out 26 26 iK (.agg (plV pl0)) 16 Try.underlying26 HKI.out HK0.out HK1.out HK2.out rfl (by decide) rfl HO6.out HQ1.out HQ6.out
              refine wpOp_step rfl (fun K' hK => ?_)
              refine step_append_run rfl (.tmp 84) (.tmp 87) 26 rfl (.slice A6 n c6) u3 ((tri_eval _ _ _ _ _ _ _ (by decide)).trans e84) (tri_eval_87 _ _ _ _ _ _ _ HSZ.out) v' W' hr ?_
              have T' := T.trans (Turns.of_grown hg (fun k h => .inl h))
              exact hK _ _ ⟨HS.out _ T', true, true, false, false, true, false, _, _, _, _, _, _, rfl, tri_88 _ _ _ _ _ _ _ _, (by have h : m + 1 = 4 := hm; omega : m = 3), hc, C7.keep hg (fun k h => HV6.out k h) (Apt.symm S5.out.n67), C8.keep hg (fun k h => HV6.out k h) (Apt.symm S5.out.n68), T', (fun _ h => by cases h), (fun _ h => by cases h), N78, (fun _ => rfl), (fun h => by cases h)⟩
            · refine wpOp_step rfl (fun K' hK => ?_)
              refine step_lit rfl (.tmp 91) 27 3 rfl (.int .i64 af) [Value.int .i64 af] RL7.out ((tri_eval _ _ _ _ _ _ _ (by decide)).trans e91) ?_
              have T' := T.trans (Turns.of_below ((Below.refl W.heap.size W).alloc (Nat.le_refl _) (.cells [Value.int .i64 af].toArray 3)) (Nat.le_refl _))
              exact hK _ _ ⟨HS.out _ T', true, false, true, false, true, false, _, _, _, _, _, _, rfl, tri_92 _ _ _ _ _ _ _ _, (by have h : m + 1 = 4 := hm; omega : m = 3), C6.keep (World.grownBy_alloc _ _ none) (fun k h => by cases h) (fun k h e => by cases e), C7.doLit hsW, C8.keep (World.grownBy_alloc _ _ none) (fun k h => by cases h) (fun k h e => by cases e), T', (fun _ h => by cases h), N68, (fun h => by cases h), (fun h => by cases h), (fun h => by cases h)⟩
          · exact absurd (O2 rfl) (by decide)
        · rcases C8.shape with ⟨rfl, rfl⟩ | ⟨rfl, rfl⟩ | ⟨rfl, rfl⟩
          · refine ready_step (rs := [4, 11]) (by kernel_rfl) (by decide) ?_
            refine all_cons ?_ (all_cons ?_ all_nil)
            · obtain ⟨v', W', hr, hc, hg, hon⟩ := C6.doApp hsW HV6.out HBS.out 26 26 iK (.agg (plV pl0)) 16 Try.underlying26 HKI.out HK0.out HK1.out HK2.out rfl (by decide) rfl HO6.out HQ1.out HQ6.out
              refine wpOp_step rfl (fun K' hK => ?_)
              refine step_append_run rfl (.tmp 84) (.tmp 87) 26 rfl (.slice A6 n c6) u3 ((tri_eval _ _ _ _ _ _ _ (by decide)).trans e84) (tri_eval_87 _ _ _ _ _ _ _ HSZ.out) v' W' hr ?_
              have T' := T.trans (Turns.of_grown hg (fun k h => .inl h))
              exact hK _ _ ⟨HS.out _ T', true, true, true, false, false, false, _, _, _, _, _, _, rfl, tri_88 _ _ _ _ _ _ _ _, (by have h : m + 1 = 4 := hm; omega : m = 3), hc, C7.keep hg (fun k h => HV6.out k h) (Apt.symm S5.out.n67), C8.keep hg (fun k h => HV6.out k h) (Apt.symm S5.out.n68), T', (fun _ h => by cases h), (fun _ h => by cases h), N78, (fun _ => rfl), (fun h => by cases h)⟩
            · refine wpOp_step rfl (fun K' hK => ?_)
              refine step_lit rfl (.const (.bool false)) 28 4 rfl (.bool false) [Value.bool false] RL8.out rfl ?_
              have T' := T.trans (Turns.of_below ((Below.refl W.heap.size W).alloc (Nat.le_refl _) (.cells [Value.bool false].toArray 4)) (Nat.le_refl _))
              exact hK _ _ ⟨HS.out _ T', true, false, true, false, true, false, _, _, _, _, _, _, rfl, tri_95 _ _ _ _ _ _ _ _, (by have h : m + 1 = 4 := hm; omega : m = 3), C6.keep (World.grownBy_alloc _ _ none) (fun k h => by cases h) (fun k h e => by cases e), C7.keep (World.grownBy_alloc _ _ none) (fun k h => by cases h) (fun k h e => by cases e), C8.doLit hsW, T', N67, (fun _ h => by cases h), (fun _ h => by cases h), (fun h => by cases h), (fun h => by cases h)⟩
          · refine ready_step (rs := [4]) (by kernel_rfl) (by decide) ?_
            refine all_cons ?_ all_nil
            · obtain ⟨v', W', hr, hc, hg, hon⟩ := C6.doApp hsW HV6.out HBS.out 26 26 iK (.agg (plV pl0)) 16 Try.underlying26 HKI.out HK0.out HK1.out HK2.out rfl (by decide) rfl HO6.out HQ1.out HQ6.out
              refine wpOp_step rfl (fun K' hK => ?_)
              refine step_append_run rfl (.tmp 84) (.tmp 87) 26 rfl (.slice A6 n c6) u3 ((tri_eval _ _ _ _ _ _ _ (by decide)).trans e84) (tri_eval_87 _ _ _ _ _ _ _ HSZ.out) v' W' hr ?_
              have T' := T.trans (Turns.of_grown hg (fun k h => .inl h))
              exact hK _ _ ⟨HS.out _ T', true, true, true, false, true, false, _, _, _, _, _, _, rfl, tri_88 _ _ _ _ _ _ _ _, (by have h : m + 1 = 3 := hm; omega : m = 2), hc, C7.keep hg (fun k h => HV6.out k h) (Apt.symm S5.out.n67), C8.keep hg (fun k h => HV6.out k h) (Apt.symm S5.out.n68), T', (fun _ h => by cases h), (fun _ h => by cases h), N78, (fun _ => rfl), (fun h => by cases h)⟩
          · exact absurd (O2 rfl) (by decide)
        · rcases C8.shape with ⟨rfl, rfl⟩ | ⟨rfl, rfl⟩ | ⟨rfl, rfl⟩
          · exact absurd (O1 rfl) (by decide)
          · exact absurd (O1 rfl) (by decide)
          · exact absurd (O1 rfl) (by decide)
      · rcases C7.shape with ⟨rfl, rfl⟩ | ⟨rfl, rfl⟩ | ⟨rfl, rfl⟩
        · rcases C8.shape with ⟨rfl, rfl⟩ | ⟨rfl, rfl⟩ | ⟨rfl, rfl⟩
          · refine ready_step (rs := [8, 11]) (by kernel_rfl) (by decide) ?_
            refine all_cons ?_ (all_cons ?_ all_nil)
            · refine wpOp_step rfl (fun K' hK => ?_)
              refine step_lit rfl (.tmp 91) 27 3 rfl (.int .i64 af) [Value.int .i64 af] RL7.out ((tri_eval _ _ _ _ _ _ _ (by decide)).trans e91) ?_
              have T' := T.trans (Turns.of_below ((Below.refl W.heap.size W).alloc (Nat.le_refl _) (.cells [Value.int .i64 af].toArray 3)) (Nat.le_refl _))
              exact hK _ _ ⟨HS.out _ T', true, true, true, false, false, false, _, _, _, _, _, _, rfl, tri_92 _ _ _ _ _ _ _ _, (by have h : m + 1 = 4 := hm; omega : m = 3), C6.keep (World.grownBy_alloc _ _ none) (fun k h => by cases h) (fun k h e => by cases e), C7.doLit hsW, C8.keep (World.grownBy_alloc _ _ none) (fun k h => by cases h) (fun k h e => by cases e), T', (fun _ h => by cases h), N68, (fun h => by cases h), (fun _ => rfl), (fun h => by cases h)⟩
            · refine wpOp_step rfl (fun K' hK => ?_)
              refine step_lit rfl (.const (.bool false)) 28 4 rfl (.bool false) [Value.bool false] RL8.out rfl ?_
              have T' := T.trans (Turns.of_below ((Below.refl W.heap.size W).alloc (Nat.le_refl _) (.cells [Value.bool false].toArray 4)) (Nat.le_refl _))
              exact hK _ _ ⟨HS.out _ T', true, true, false, false, true, false, _, _, _, _, _, _, rfl, tri_95 _ _ _ _ _ _ _ _, (by have h : m + 1 = 4 := hm; omega : m = 3), C6.keep (World.grownBy_alloc _ _ none) (fun k h => by cases h) (fun k h e => by cases e), C7.keep (World.grownBy_alloc _ _ none) (fun k h => by cases h) (fun k h e => by cases e), C8.doLit hsW, T', N67, (fun _ h => by cases h), (fun _ h => by cases h), (fun _ => rfl), (fun h => by cases h)⟩
          · refine ready_step (rs := [8]) (by kernel_rfl) (by decide) ?_
            refine all_cons ?_ all_nil
            · refine wpOp_step rfl (fun K' hK => ?_)
              refine step_lit rfl (.tmp 91) 27 3 rfl (.int .i64 af) [Value.int .i64 af] RL7.out ((tri_eval _ _ _ _ _ _ _ (by decide)).trans e91) ?_
              have T' := T.trans (Turns.of_below ((Below.refl W.heap.size W).alloc (Nat.le_refl _) (.cells [Value.int .i64 af].toArray 3)) (Nat.le_refl _))
              exact hK _ _ ⟨HS.out _ T', true, true, true, false, true, false, _, _, _, _, _, _, rfl, tri_92 _ _ _ _ _ _ _ _, (by have h : m + 1 = 3 := hm; omega : m = 2), C6.keep (World.grownBy_alloc _ _ none) (fun k h => by cases h) (fun k h e => by cases e), C7.doLit hsW, C8.keep (World.grownBy_alloc _ _ none) (fun k h => by cases h) (fun k h e => by cases e), T', (fun _ h => by cases h), N68, (fun h => by cases h), (fun _ => rfl), (fun h => by cases h)⟩
          · exact absurd (O2 rfl) (by decide)
        · rcases C8.shape with ⟨rfl, rfl⟩ | ⟨rfl, rfl⟩ | ⟨rfl, rfl⟩
          · refine ready_step (rs := [9, 11]) (by kernel_rfl) (by decide) ?_
            refine all_cons ?_ (all_cons ?_ all_nil)
            · obtain ⟨v', W', hr, hc, hg, hon⟩ := C7.doApp hsW HV7.out HBS.out 27 27 iI (.int .i64 0) 8 Try.underlying27 HII.out HI0.out HI1.out HI2.out rfl (by decide) rfl HO7.out HQ1.out HQ7.out
              refine wpOp_step rfl (fun K' hK => ?_)
              refine step_append_run rfl (.tmp 89) (.tmp 92) 27 rfl (.slice A7 n c7) u8 ((tri_eval _ _ _ _ _ _ _ (by decide)).trans e89) (tri_eval_92 _ _ _ _ _ _ _ HSZ.out) v' W' hr ?_
              have T' := T.trans (Turns.of_grown hg (fun k h => .inr (.inl h)))
              exact hK _ _ ⟨HS.out _ T', true, true, true, true, false, false, _, _, _, _, _, _, rfl, tri_93 _ _ _ _ _ _ _ _, (by have h : m + 1 = 3 := hm; omega : m = 2), C6.keep hg (fun k h => HV7.out k h) S5.out.n67, hc, C8.keep hg (fun k h => HV7.out k h) (Apt.symm S5.out.n78), T', (fun _ _ => Apt.symm (Apt.new_ hon (C6.app rfl).2.2 (fun k h => ((C6.app rfl).2.1.lt k h).2) (Apt.symm S5.out.n67) HV7.out)), N68, (fun _ h => by cases h), (fun _ => rfl), (fun _ => rfl)⟩
            · refine wpOp_step rfl (fun K' hK => ?_)
              refine step_lit rfl (.const (.bool false)) 28 4 rfl (.bool false) [Value.bool false] RL8.out rfl ?_
              have T' := T.trans (Turns.of_below ((Below.refl W.heap.size W).alloc (Nat.le_refl _) (.cells [Value.bool false].toArray 4)) (Nat.le_refl _))
              exact hK _ _ ⟨HS.out _ T', true, true, true, false, true, false, _, _, _, _, _, _, rfl, tri_95 _ _ _ _ _ _ _ _, (by have h : m + 1 = 3 := hm; omega : m = 2), C6.keep (World.grownBy_alloc _ _ none) (fun k h => by cases h) (fun k h e => by cases e), C7.keep (World.grownBy_alloc _ _ none) (fun k h => by cases h) (fun k h e => by cases e), C8.doLit hsW, T', N67, (fun _ h => by cases h), (fun _ h => by cases h), (fun _ => rfl), (fun h => by cases h)⟩
          · refine ready_step (rs := [9]) (by kernel_rfl) (by decide) ?_
            refine all_cons ?_ all_nil
            · obtain ⟨v', W', hr, hc, hg, hon⟩ := C7.doApp hsW HV7.out HBS.out 27 27 iI (.int .i64 0) 8 Try.underlying27 HII.out HI0.out HI1.out HI2.out rfl (by decide) rfl HO7.out HQ1.out HQ7.out
              refine wpOp_step rfl (fun K' hK => ?_)
              refine step_append_run rfl (.tmp 89) (.tmp 92) 27 rfl (.slice A7 n c7) u8 ((tri_eval _ _ _ _ _ _ _ (by decide)).trans e89) (tri_eval_92 _ _ _ _ _ _ _ HSZ.out) v' W' hr ?_
              have T' := T.trans (Turns.of_grown hg (fun k h => .inr (.inl h)))
              exact hK _ _ ⟨HS.out _ T', true, true, true, true, true, false, _, _, _, _, _, _, rfl, tri_93 _ _ _ _ _ _ _ _, (by have h : m + 1 = 2 := hm; omega : m = 1), C6.keep hg (fun k h => HV7.out k h) S5.out.n67, hc, C8.keep hg (fun k h => HV7.out k h) (Apt.symm S5.out.n78), T', (fun _ _ => Apt.symm (Apt.new_ hon (C6.app rfl).2.2 (fun k h => ((C6.app rfl).2.1.lt k h).2) (Apt.symm S5.out.n67) HV7.out)), N68, (fun _ h => by cases h), (fun _ => rfl), (fun _ => rfl)⟩
          · exact absurd (O2 rfl) (by decide)
        · rcases C8.shape with ⟨rfl, rfl⟩ | ⟨rfl, rfl⟩ | ⟨rfl, rfl⟩
          · refine ready_step (rs := [11]) (by kernel_rfl) (by decide) ?_
            refine all_cons ?_ all_nil
            · refine wpOp_step rfl (fun K' hK => ?_)
              refine step_lit rfl (.const (.bool false)) 28 4 rfl (.bool false) [Value.bool false] RL8.out rfl ?_
              have T' := T.trans (Turns.of_below ((Below.refl W.heap.size W).alloc (Nat.le_refl _) (.cells [Value.bool false].toArray 4)) (Nat.le_refl _))
              exact hK _ _ ⟨HS.out _ T', true, true, true, true, true, false, _, _, _, _, _, _, rfl, tri_95 _ _ _ _ _ _ _ _, (by have h : m + 1 = 2 := hm; omega : m = 1), C6.keep (World.grownBy_alloc _ _ none) (fun k h => by cases h) (fun k h e => by cases e), C7.keep (World.grownBy_alloc _ _ none) (fun k h => by cases h) (fun k h e => by cases e), C8.doLit hsW, T', N67, (fun _ h => by cases h), (fun _ h => by cases h), (fun _ => rfl), (fun _ => rfl)⟩
          · refine ready_step (rs := [12]) (by kernel_rfl) (by decide) ?_
            refine all_cons ?_ all_nil
            · obtain ⟨v', W', hr, hc, hg, hon⟩ := C8.doApp hsW HV8.out HBS.out 28 28 iB (.bool false) 1 Try.underlying28 HBI.out HB0.out HB1.out HB2.out rfl (by decide) rfl HO8.out HQ1.out HQ8.out
              refine wpOp_step rfl (fun K' hK => ?_)
              refine step_append_run rfl (.tmp 94) (.tmp 95) 28 rfl (.slice A8 n c8) ub ((tri_eval _ _ _ _ _ _ _ (by decide)).trans e94) (tri_eval_95 _ _ _ _ _ _ _ HSZ.out) v' W' hr ?_
              have T' := T.trans (Turns.of_grown hg (fun k h => .inr (.inr h)))
              exact hK _ _ ⟨HS.out _ T', true, true, true, true, true, true, _, _, _, _, _, _, rfl, tri_96 _ _ _ _ _ _ _ _, (by have h : m + 1 = 1 := hm; omega : m = 0), C6.keep hg (fun k h => HV8.out k h) S5.out.n68, C7.keep hg (fun k h => HV8.out k h) S5.out.n78, hc, T', N67, (fun _ _ => Apt.symm (Apt.new_ hon (C6.app rfl).2.2 (fun k h => ((C6.app rfl).2.1.lt k h).2) (Apt.symm S5.out.n68) HV8.out)), (fun _ _ => Apt.symm (Apt.new_ hon (C7.app rfl).2.2 (fun k h => ((C7.app rfl).2.1.lt k h).2) (Apt.symm S5.out.n78) HV8.out)), (fun _ => rfl), (fun _ => rfl)⟩
          · exact absurd (show m + 1 = 0 from hm) (by omega)
    case base =>
      intro listed a W hI
      obtain ⟨b3, b4, b8, b9, bb, bc, u3, u4, u8, u9, ub, uc, rfl, rfl, hm, C6, C7, C8, T, N67, N68, N78, O1, O2⟩ := hI
      obtain ⟨rfl, rfl, rfl, rfl, rfl, rfl⟩ := bn_zero hm
      have ST := Lib.hid (STP.out W u3 u4 u8 u9 ub uc T C6 C7 C8 (N67 rfl rfl) (N68 rfl rfl) (N78 rfl rfl))
      have hHeld := HS.out _ T
      clear C6 C7 C8 T N67 N68 N78 hm e84 e86 e89 e91 e94 HSZ
      subst ha0
      unfold Tri
      try simp only [Act.put, List.getElem_toArray, List.getElem_cons_succ, List.getElem_cons_zero, List.setIfInBounds_toArray, List.set_cons_zero, List.set_cons_succ]
      refine wpAnyH_take (i := 13) (v := ?v8) rfl (by kernel_rfl) (by kernel_rfl) (by kernel_rfl) (fun _ _ _ h => h) (Or.inl ⟨by rfl, ?hy8⟩) (by assumption) ?rest8
      case hy8 => (intro w hSw; (try dsimp only at hSw); go_simp; try with_reducible rfl)
      try simp only [Act.put, List.getElem_toArray, List.getElem_cons_succ, List.getElem_cons_zero, List.setIfInBounds_toArray, List.set_cons_zero, List.set_cons_succ]
      refine wpAnyH_take (i := 14) (v := ?v9) rfl (by kernel_rfl) (by kernel_rfl) (by kernel_rfl) (fun _ _ _ h => h) (Or.inl ⟨by rfl, ?hy9⟩) (by assumption) ?rest9
      case hy9 => (intro w hSw; (try dsimp only at hSw); go_simp; try with_reducible rfl)
      try simp only [Act.put, List.getElem_toArray, List.getElem_cons_succ, List.getElem_cons_zero, List.setIfInBounds_toArray, List.set_cons_zero, List.set_cons_succ]
      refine wpAnyH_take (i := 15) (v := ?v10) rfl (by kernel_rfl) (by kernel_rfl) (by kernel_rfl) (fun _ _ _ h => h) (Or.inl ⟨by rfl, ?hy10⟩) (by assumption) ?rest10
      case hy10 => (intro w hSw; (try dsimp only at hSw); go_simp; try with_reducible rfl)
      try simp only [Act.put, List.getElem_toArray, List.getElem_cons_succ, List.getElem_cons_zero, List.setIfInBounds_toArray, List.set_cons_zero, List.set_cons_succ]
      refine wpAnyH_done (by kernel_rfl) ?_ _
      refine NoPanic.normal ?_
      go_simp
      go_wp2_with fail
      exact ⟨es ++ [⟨⟨pc, pg⟩, af, false⟩], _, _, _, ⟨rfl, rfl, rfl⟩, rfl, rfl, rfl, by rw [List.length_append, ← HN.out]; exact Nat.le_refl _, WE.out.snoc WK.out WF.out, ST.out⟩
  · rw [hh] at e1
    cases e1
end Go.Proofs.Ytcfjkppgfjlbbaa
