/-
  The contracts of a tree's Tables, Owns, Close and New.
  Conditions: those that each line bears.
-/
import Derived.Test.YtegoookllckhiaaTrK
namespace Go.Proofs.Ytegoookllckhiaa
open Go.RowKit
set_option linter.unusedVariables false

theorem ttables_at (gT gS gL : Nat) (bl : List Bool) (w : World) (c3 : w.cell? ⟨gT, 3, none⟩ = some (.pointer (some ⟨gS, 0, none⟩))) (hS : SetAt w gS gL bl) :
    Calls Try.prog 15 #[.pointer (some ⟨gT, 0, none⟩)] w fun e w' => ∃ v, e = .returned v ∧ w'.ownsRow w.heap.size 3 1 v (badZ bl bl.length).length ((badZ bl bl.length).map (fun z => Value.int .i64 z)) ∧ Below w.heap.size w w' := by
  have AL := Lib.hid (all_own gS gL bl w hS.1 hS.2.1 (by rw [hS.2.2.2]; exact Nat.le_refl _))
  clear hS
  go_enter Try.func15, Try.ntmps15
  go_wp2_with fail
  refine AL.out.mono ?_
  rintro e w1 ⟨v, rfl, h1, h2⟩
  have H1 := Lib.hid h1
  have H2 := Lib.hid h2
  clear h1 h2
  go_wp2_with fail
  go_ret
  exact ⟨v, rfl, H1.out, H2.out⟩
theorem ttables_dead (gT : Nat) (w : World) (h : Blk w gT 59 treeD) :
    Calls Try.prog 15 #[.pointer (some ⟨gT, 0, none⟩)] w fun e w' => e = .returned (.slice none 0 0) ∧ w = w' := by
  have c3 : w.cell? ⟨gT, 3, none⟩ = some (.pointer none) := h.cell 3
  have AL := Lib.hid (runs_all_nil w)
  clear h
  go_enter Try.func15, Try.ntmps15
  go_wp2_with fail
  refine AL.out.mono ?_
  rintro e w1 ⟨rfl, rfl⟩
  go_wp2_with fail
  go_ret
  exact ⟨rfl, rfl⟩
theorem ttables_nil (w : World) : Calls Try.prog 15 #[.pointer none] w fun e w' => e = .returned (.slice none 0 0) ∧ w = w' := by
  go_enter Try.func15, Try.ntmps15
  go_wp2
  go_ret
  exact ⟨rfl, rfl⟩
theorem towns_at (gT gS gL : Nat) (bl : List Bool) (f : Int) (w : World) (c3 : w.cell? ⟨gT, 3, none⟩ = some (.pointer (some ⟨gS, 0, none⟩))) (hS : SetAt w gS gL bl) :
    Calls Try.prog 16 #[.pointer (some ⟨gT, 0, none⟩), .int .i64 f] w fun e w' => e = .returned (.bool (decide (0 ≤ f ∧ f < (bl.length : Int)) && bl.getD f.toNat false)) ∧ Below w.heap.size w w' := by
  have AL := runs_has gS _ bl f w hS.mem
  obtain ⟨Z, hZ⟩ : ∃ Z, Z = (decide (0 ≤ f ∧ f < (bl.length : Int)) && bl.getD f.toNat false) := ⟨_, rfl⟩
  rw [← hZ] at AL ⊢
  have AL := Lib.hid AL
  clear hS hZ
  go_enter Try.func16, Try.ntmps16
  go_wp2_with fail
  refine AL.out.mono ?_
  rintro e w1 ⟨rfl, h2⟩
  have H2 := Lib.hid h2
  clear h2
  go_wp2_with fail
  go_ret
  exact ⟨rfl, H2.out⟩
theorem towns_dead (gT : Nat) (f : Int) (w : World) (h : Blk w gT 59 treeD) :
    Calls Try.prog 16 #[.pointer (some ⟨gT, 0, none⟩), .int .i64 f] w fun e w' => e = .returned (.bool false) ∧ w = w' := by
  have c3 : w.cell? ⟨gT, 3, none⟩ = some (.pointer none) := h.cell 3
  have AL := Lib.hid (runs_has_nil f w)
  clear h
  go_enter Try.func16, Try.ntmps16
  go_wp2_with fail
  refine AL.out.mono ?_
  rintro e w1 ⟨rfl, rfl⟩
  go_wp2_with fail
  go_ret
  exact ⟨rfl, rfl⟩
theorem towns_nil (f : Int) (w : World) : Calls Try.prog 16 #[.pointer none, .int .i64 f] w fun e w' => e = .returned (.bool false) ∧ w = w' := by
  go_enter Try.func16, Try.ntmps16
  go_wp2
  go_ret
  exact ⟨rfl, rfl⟩
/-! ### Close -/
theorem tclose_nil (w : World) : Calls Try.prog 20 #[.pointer none] w fun e w' => e = .returned (.tuple #[]) ∧ w = w' := by
  go_enter Try.func20, Try.ntmps20
  go_wp2
  refine bodyPost_ret (results_none rfl _ _ _) rfl ?_
  exact ⟨rfl, rfl⟩
theorem badZ_zI (bl : List Bool) (k : Nat) : badZ bl k = zI (bads bl k) := rfl
set_option maxRecDepth 20000 in
set_option maxHeartbeats 800000 in
theorem tclose_live (gT gR gP r gS gL : Nat) (p : PS) (bl : List Bool) (w : World) (hT : TreeB w gT gR gP r gS) (hP : PoolIn w gP p) (hS : SetAt w gS gL bl) (hD : Dif gT gP gS gL) :
    Calls Try.prog 20 #[.pointer (some ⟨gT, 0, none⟩)] w fun e w' => e = .returned (.tuple #[]) ∧ PoolIn w' gP (freeAll p (bads bl 1024)) ∧ Blk w' gT 59 treeD ∧ Turns (fun k => k = gP ∨ k = gT ∨ k = gS ∨ k = gL) w w' := by
  have AL := Lib.hid (ttables_at gT gS gL bl w (Blk.cell hT 3) hS)
  have HT := Lib.hid hT
  have HP := Lib.hid hP
  have HS := Lib.hid hS
  have HD := Lib.hid hD
  have HLT := Lib.hid (show gT < w.heap.size ∧ gP < w.heap.size ∧ gS < w.heap.size ∧ gL < w.heap.size from ⟨Blk.lt hT, PoolMem.lt hP _ rfl, hS.lt.1, hS.lt.2⟩)
  have hl10 : bl.length = 1024 := hS.2.2.2
  rw [hl10, badZ_zI] at AL
  have HL10 := Lib.hid hl10
  clear hT hP hS hD hl10
  go_enter Try.func20, Try.ntmps20
  go_wp2_with fail
  refine AL.out.mono ?_
  rintro e w1 ⟨v, rfl, h1, h2⟩
  have hlt := HLT.out
  have DR := Lib.hid (tdrop_any gT gR gP r gS gL p bl v (bads bl 1024) w1 (Blk.below HT.out h2 (Blk.lt HT.out)) (HP.out.fresh h2) (HS.out.fresh h2) HD.out (Its.of_own h1) (by
    rintro b o s n c rfl hn hk
    have := (h1.lt b rfl).1
    rcases hk with h | h | h <;> omega))
  have H2 := Lib.hid h2
  have HT1 := Lib.hid (Blk.below HT.out h2 (Blk.lt HT.out))
  clear h1 h2 hlt
  go_wp2_with fail
  refine DR.out.mono ?_
  rintro e w2 ⟨rfl, k1, k2, k3⟩
  have hT2 : Blk w2 gT 59 (treeV gR gP r gS) := k3.blk HT1.out (by have := HD.out; rintro (h | h | h); exact this.tP h; exact this.tS h; exact this.tL h)
  have c0 : w2.cell? ⟨gT, 0, none⟩ = some (.pointer (some ⟨gR, 0, none⟩)) := hT2.cell 0
  have c1 : w2.cell? ⟨gT, 1, none⟩ = some (.pointer (some ⟨gP, 0, none⟩)) := hT2.cell 1
  have c2 : w2.cell? ⟨gT, 2, none⟩ = some (.int .i64 (r : Int)) := hT2.cell 2
  have c3 : w2.cell? ⟨gT, 3, none⟩ = some (.pointer (some ⟨gS, 0, none⟩)) := hT2.cell 3
  have f0 : w2.frozen? ⟨gT, 0, none⟩ = false := hT2.frozen 0
  have f1 : w2.frozen? ⟨gT, 1, none⟩ = false := hT2.frozen 1
  have f2 : w2.frozen? ⟨gT, 2, none⟩ = false := hT2.frozen 2
  have f3 : w2.frozen? ⟨gT, 3, none⟩ = false := hT2.frozen 3
  have K1 := Lib.hid k1
  have K3 := Lib.hid k3
  have HT2 := Lib.hid hT2
  clear k1 k2 k3 hT2
  go_wp2_with fail
  (try simp only [Exit.inBlock, Exit.then])
  refine bodyPost_end (results_none rfl _ _ _) rfl ?_
  have TW : Turns (fun k => k = gT) w2 ((((w2.setCell ⟨gT, 0, none⟩ (.pointer none)).setCell ⟨gT, 1, none⟩ (.pointer none)).setCell ⟨gT, 2, none⟩ (.int .i64 0)).setCell ⟨gT, 3, none⟩ (.pointer none)) := Turns.of_only (((((Only.refl gT w2).setCell 0 _).setCell 1 _).setCell 2 _).setCell 3 _) rfl
  refine ⟨rfl, K1.out.turns TW (fun e => HD.out.tP e.symm), ((((HT2.out.set_ 0 _).set_ 1 _).set_ 2 _).set_ 3 _), ?_⟩
  exact ((Turns.of_below H2.out (Nat.le_refl _)).trans (K3.out.mono (fun k hk => by rcases hk with h | h | h; exact .inl h; exact .inr (.inr (.inl h)); exact .inr (.inr (.inr h))))).trans (TW.mono (fun k hk => .inr (.inl hk)))
theorem runs_drop_none (w : World) : Calls Try.prog 60 #[.pointer none, .slice none 0 0] w fun e w' => e = .returned (.tuple #[]) ∧ w = w' := by
  have MK := Lib.hid (mark_nil false (.slice none 0 0) [] w (Its.nil_ _ _))
  go_enter Try.func60, Try.ntmps60
  go_wp2_with fail
  refine MK.out.mono ?_
  rintro e w' ⟨rfl, rfl⟩
  go_wp2
  (try simp only [Exit.inBlock, Exit.then])
  refine bodyPost_end (results_none rfl _ _ _) rfl ?_
  exact ⟨rfl, rfl⟩
set_option maxRecDepth 20000 in
set_option maxHeartbeats 800000 in
theorem tdrop_dead (gT : Nat) (w : World) (h : Blk w gT 59 treeD) :
    Calls Try.prog 41 #[.pointer (some ⟨gT, 0, none⟩), .slice none 0 0] w fun e w' => e = .returned (.tuple #[]) ∧ w = w' := by
  have c3 : w.cell? ⟨gT, 3, none⟩ = some (.pointer none) := h.cell 3
  have DN := Lib.hid (runs_drop_none w)
  clear h
  go_enter Try.func41, Try.ntmps41
  go_wp2_with fail
  go_loopg [5, 8] 0 (fun gg _ s8 wx => s8 = .int .i64 0 ∧ wx = w)
  case atStart => exact ⟨rfl, rfl⟩
  case round =>
    obtain ⟨rfl, rfl⟩ := hrel
    go_wp2_with fail
    refine DN.out.mono ?_
    rintro e w1 ⟨rfl, rfl⟩
    go_wp2_with fail
    (try simp only [Exit.inBlock, Exit.then])
    refine bodyPost_end (results_none rfl _ _ _) rfl ?_
    exact ⟨rfl, rfl⟩
set_option maxRecDepth 20000 in
set_option maxHeartbeats 800000 in
theorem tclose_dead (gT : Nat) (w : World) (h : Blk w gT 59 treeD) :
    Calls Try.prog 20 #[.pointer (some ⟨gT, 0, none⟩)] w fun e w' => e = .returned (.tuple #[]) ∧ Blk w' gT 59 treeD ∧ Turns (fun k => k = gT) w w' := by
  have AL := Lib.hid (ttables_dead gT w h)
  have HT := Lib.hid h
  have c0 : w.cell? ⟨gT, 0, none⟩ = some (.pointer none) := h.cell 0
  have c1 : w.cell? ⟨gT, 1, none⟩ = some (.pointer none) := h.cell 1
  have c2 : w.cell? ⟨gT, 2, none⟩ = some (.int .i64 0) := h.cell 2
  have c3 : w.cell? ⟨gT, 3, none⟩ = some (.pointer none) := h.cell 3
  have f0 : w.frozen? ⟨gT, 0, none⟩ = false := h.frozen 0
  have f1 : w.frozen? ⟨gT, 1, none⟩ = false := h.frozen 1
  have f2 : w.frozen? ⟨gT, 2, none⟩ = false := h.frozen 2
  have f3 : w.frozen? ⟨gT, 3, none⟩ = false := h.frozen 3
  clear h
  go_enter Try.func20, Try.ntmps20
  go_wp2_with fail
  refine AL.out.mono ?_
  rintro e w1 ⟨rfl, rfl⟩
  have DR := Lib.hid (tdrop_dead gT w HT.out)
  go_wp2_with fail
  refine DR.out.mono ?_
  rintro e w1 ⟨rfl, rfl⟩
  go_wp2_with fail
  (try simp only [Exit.inBlock, Exit.then])
  refine bodyPost_end (results_none rfl _ _ _) rfl ?_
  exact ⟨rfl, ((((HT.out.set_ 0 _).set_ 1 _).set_ 2 _).set_ 3 _), Turns.of_only (((((Only.refl gT w).setCell 0 _).setCell 1 _).setCell 2 _).setCell 3 _) rfl⟩
end Go.Proofs.Ytegoookllckhiaa
