/-
  The contracts of a tree's may, digitsOf, tells, read, write and empty.
  Conditions: those that each line bears.
-/
import Derived.Test.YtegoookllckhiaaTreU
import Derived.Test.YtegoookllckhiaaRamD
import Derived.Test.YtegoookllckhiaaWrd
import Derived.Test.YtegoookllckhiaaEntI
import Derived.Deep.LoopGhost
import Derived.ChangeKeysEq
namespace Go.Proofs.Ytegoookllckhiaa
open Go.RowKit
set_option linter.unusedVariables false

/-- A tree's own cells: memory, pool, root, set of tables. -/
def treeV (gR gP r gS : Nat) : Array Value := #[.pointer (some ⟨gR, 0, none⟩), .pointer (some ⟨gP, 0, none⟩), .int .i64 (r : Int), .pointer (some ⟨gS, 0, none⟩)]
def treeD : Array Value := #[.pointer none, .pointer none, .int .i64 0, .pointer none]
def TreeB (w : World) (gT gR gP r gS : Nat) : Prop := Blk w gT 59 (treeV gR gP r gS)

theorem Blk.oth {w : World} {g g' i : Nat} {t : TypeId} {cs : Array Value} {u : Value} (h : Blk w g t cs) (hne : g ≠ g') : Blk (w.setCell ⟨g', i, none⟩ u) g t cs := (Below.heap_setCell _ _ _ _ hne).trans h
theorem Blk.eq_ {w : World} {g : Nat} {t : TypeId} {cs cs' : Array Value} (h : Blk w g t cs) (e : cs = cs') : Blk w g t cs' := e ▸ h

set_option maxHeartbeats 400000 in
theorem tmay_nil (page : Int) (w : World) :
    Calls Try.prog 28 #[.pointer none, .int .i64 page] w fun e w' => e = .returned (.int .i64 1) ∧ w = w' := by
  go_enter Try.func28, Try.ntmps28
  go_wp2
  go_ret
  exact ⟨rfl, rfl⟩
set_option maxHeartbeats 400000 in
theorem tmay_dead (gT : Nat) (page : Int) (w : World) (h : Blk w gT 59 treeD) :
    Calls Try.prog 28 #[.pointer (some ⟨gT, 0, none⟩), .int .i64 page] w fun e w' => e = .returned (.int .i64 2) ∧ w = w' := by
  have c0 : w.cell? ⟨gT, 0, none⟩ = some (.pointer none) := h.cell 0
  clear h
  go_enter Try.func28, Try.ntmps28
  go_wp2
  go_ret
  exact ⟨rfl, rfl⟩
set_option maxHeartbeats 400000 in
theorem tmay_out (gT gR gP r gS : Nat) (page : Int) (w : World) (h : TreeB w gT gR gP r gS) (hp : page < 0 ∨ 4095 < page) :
    Calls Try.prog 28 #[.pointer (some ⟨gT, 0, none⟩), .int .i64 page] w fun e w' => e = .returned (.int .i64 1) ∧ w = w' := by
  have c0 : w.cell? ⟨gT, 0, none⟩ = some (.pointer (some ⟨gR, 0, none⟩)) := Blk.cell h 0
  clear h
  by_cases h1 : page < 0
  · have d1 : decide (page < 0) = true := decide_eq_true h1
    clear hp
    go_enter Try.func28, Try.ntmps28
    go_wp2
    go_ret
    exact ⟨rfl, rfl⟩
  · have d1 : decide (page < 0) = false := decide_eq_false h1
    have d2 : decide (4096 ≤ page) = true := decide_eq_true (by omega)
    clear hp
    go_enter Try.func28, Try.ntmps28
    go_wp2
    go_ret
    exact ⟨rfl, rfl⟩
set_option maxHeartbeats 400000 in
theorem tmay_in (gT gR gP r gS page : Nat) (w : World) (h : TreeB w gT gR gP r gS) (hp : page < 4096) :
    Calls Try.prog 28 #[.pointer (some ⟨gT, 0, none⟩), .int .i64 (page : Int)] w fun e w' => e = .returned (.int .i64 0) ∧ w = w' := by
  have c0 : w.cell? ⟨gT, 0, none⟩ = some (.pointer (some ⟨gR, 0, none⟩)) := Blk.cell h 0
  clear h
  have d1 : decide ((page : Int) < 0) = false := decide_eq_false (by omega)
  have d2 : decide (4096 ≤ (page : Int)) = false := decide_eq_false (by omega)
  go_enter Try.func28, Try.ntmps28
  go_wp2
  go_ret
  exact ⟨rfl, rfl⟩

theorem tells_any (f : Nat) (w : World) (hf : f < 1024) :
    Calls Try.prog 52 #[.int .i64 (f : Int)] w fun e w' => e = .returned (.int .u64 ((f + 1 : Nat) : Int)) ∧ w = w' := by
  go_enter Try.func52, Try.ntmps52
  go_wp2
  go_ret
  exact ⟨by go_num, rfl⟩

/-- The digits of a page, the first k of them, from the last one up. -/
def digK (page k : Nat) : Array Value := #[.int .i64 ((if 4 ≤ k then page / 512 % 8 else 0 : Nat) : Int), .int .i64 ((if 3 ≤ k then page / 64 % 8 else 0 : Nat) : Int), .int .i64 ((if 2 ≤ k then page / 8 % 8 else 0 : Nat) : Int), .int .i64 ((if 1 ≤ k then page % 8 else 0 : Nat) : Int)]
def digV (page : Nat) : Array Value := #[.int .i64 ((page / 512 % 8 : Nat) : Int), .int .i64 ((page / 64 % 8 : Nat) : Int), .int .i64 ((page / 8 % 8 : Nat) : Int), .int .i64 ((page % 8 : Nat) : Int)]
theorem digV_at (page : Nat) {l : Nat} (h : l < 4) : (digV page)[l]? = some (.int .i64 ((page / dv (l + 1) % 8 : Nat) : Int)) := by
  rcases four h with rfl | rfl | rfl | rfl
  · rfl
  · rfl
  · rfl
  · show _ = some (Value.int .i64 ((page / 1 % 8 : Nat) : Int))
    rw [Nat.div_one]
    rfl
theorem Try.sizeDig : (Try.prog.info? 68).map (·.size) = some 4 := by kernel_rfl
set_option maxRecDepth 20000 in
set_option maxHeartbeats 800000 in
theorem digits_any (page : Nat) (w : World) (hp : page < 4096) :
    Calls Try.prog 30 #[.int .i64 (page : Int)] w fun e w' => e = .returned (.agg (digV page)) ∧ Below w.heap.size w w' := by
  have B0 := Lib.hid ((Blk.new w 68 (digK page 0)).al (.cells (digK page 0) 68))
  have B1 := Lib.hid (Blk.new1 w (.cells (digK page 0) 68) 68 (digK page 0))
  have HB := Lib.hid (((Below.refl w.heap.size w).alloc (Nat.le_refl _) (.cells (digK page 0) 68)).alloc (by simp) (.cells (digK page 0) 68))
  go_enter Try.func30, Try.ntmps30
  go_wp2_with fail
  go_loopg [0, 4, 5] 4 (fun gg s0 _ s5 wx => ∃ k : Nat, k + gg = 4 ∧ s5 = .int .i64 (k : Int) ∧ s0 = .int .i64 ((page / 8 ^ k : Nat) : Int) ∧ Blk wx (w.heap.size + 1) 68 (digK page k) ∧ Blk wx w.heap.size 68 (digK page 0) ∧ Below w.heap.size w wx)
  case atStart => exact ⟨0, rfl, rfl, by simp, B1.out, B0.out, HB.out⟩
  case round =>
    obtain ⟨k, hkg, rfl, rfl, h1, h0, hb⟩ := hrel
    have H1 := Lib.hid h1
    have H0 := Lib.hid h0
    have HB1 := Lib.hid hb
    clear h0 hb
    obtain ⟨P, hP⟩ : ∃ P, P = page / 8 ^ k := ⟨_, rfl⟩
    rw [← hP]
    have hw1 : IntKind.i64.wrap (((P % 8 : Nat) : Int)) = ((P % 8 : Nat) : Int) := by rw [IntKind.wrap_i64]; omega
    by_cases hlt : k < 4
    · have t1 : decide ((k : Int) < 4) = true := decide_eq_true (by omega)
      have fz : wr.frozen? ⟨w.heap.size + 1, 3 - k, none⟩ = false := h1.frozen _
      have cz : wr.cell? ⟨w.heap.size + 1, 3 - k, none⟩ = some (.int .i64 0) := by
        rw [h1.cell]
        rcases (show k = 0 ∨ k = 1 ∨ k = 2 ∨ k = 3 by omega) with rfl | rfl | rfl | rfl <;> rfl
      clear h1
      have HP := Lib.hid hP
      clear hP
      go_wp2_with fail
      go_roundg (4 - (k + 1))
      case measure => omega
      case rel =>
        refine ⟨k + 1, by omega, by go_num, ?_, ?_, H0.out.oth (by omega), HB1.out.setCell (by simp) _⟩
        · have hP4 : P < 4096 := by rw [HP.out]; exact Nat.lt_of_le_of_lt (Nat.div_le_self _ _) hp
          rw [show wrap64 ((P : Int) / 8) = (P : Int) / 8 from by unfold wrap64; omega]
          have : P / 8 = page / 8 ^ (k + 1) := by rw [HP.out, Nat.div_div_eq_div_mul, Nat.pow_succ]
          rw [← this]
          rfl
        · refine (H1.out.set_ _ _).eq_ ?_
          have e : P = page / 8 ^ k := HP.out
          rcases (show k = 0 ∨ k = 1 ∨ k = 2 ∨ k = 3 by omega) with rfl | rfl | rfl | rfl
          · rw [Nat.pow_zero, Nat.div_one] at e
            subst e; rfl
          · subst e; rfl
          · subst e; rfl
          · subst e; rfl
    · obtain rfl : k = 4 := by omega
      obtain ⟨d0, e0⟩ : ∃ d, d = (digK page 4)[0]! := ⟨_, rfl⟩
      have c0 : wr.cell? ⟨w.heap.size + 1, 0, none⟩ = some (.int .i64 ((page / 512 % 8 : Nat) : Int)) := h1.cell 0
      have c1 : wr.cell? ⟨w.heap.size + 1, 1, none⟩ = some (.int .i64 ((page / 64 % 8 : Nat) : Int)) := h1.cell 1
      have c2 : wr.cell? ⟨w.heap.size + 1, 2, none⟩ = some (.int .i64 ((page / 8 % 8 : Nat) : Int)) := h1.cell 2
      have c3 : wr.cell? ⟨w.heap.size + 1, 3, none⟩ = some (.int .i64 ((page % 8 : Nat) : Int)) := h1.cell 3
      have b0 : wr.cell? ⟨w.heap.size, 0, none⟩ = some (.int .i64 0) := H0.out.cell 0
      have b1 : wr.cell? ⟨w.heap.size, 1, none⟩ = some (.int .i64 0) := H0.out.cell 1
      have b2 : wr.cell? ⟨w.heap.size, 2, none⟩ = some (.int .i64 0) := H0.out.cell 2
      have b3 : wr.cell? ⟨w.heap.size, 3, none⟩ = some (.int .i64 0) := H0.out.cell 3
      have f0 : wr.frozen? ⟨w.heap.size, 0, none⟩ = false := H0.out.frozen 0
      have f1 : wr.frozen? ⟨w.heap.size, 1, none⟩ = false := H0.out.frozen 1
      have f2 : wr.frozen? ⟨w.heap.size, 2, none⟩ = false := H0.out.frozen 2
      have f3 : wr.frozen? ⟨w.heap.size, 3, none⟩ = false := H0.out.frozen 3
      clear h1
      go_wp2_with fail
      refine bodyPost_ret (results_cell_row rfl _ _ w.heap.size 68 (digV page) (0, 0) _ rfl (((((H0.out.set_ 0 _).set_ 1 _).set_ 2 _).set_ 3 _).eq_ rfl) Try.underlying68 rfl (by kernel_rfl)) rfl ?_
      exact ⟨rfl, (((HB1.out.setCell (Nat.le_refl _) _).setCell (Nat.le_refl _) _).setCell (Nat.le_refl _) _).setCell (Nat.le_refl _) _⟩

/-! ### a table's numbers -/
def tabV (xs : List Nat) : Array Value := #[.int .u64 ((numJ xs 0 : Nat) : Int), .int .u64 ((numJ xs 1 : Nat) : Int), .int .u64 ((numJ xs 2 : Nat) : Int), .int .u64 ((numJ xs 3 : Nat) : Int), .int .u64 ((numJ xs 4 : Nat) : Int), .int .u64 ((numJ xs 5 : Nat) : Int), .int .u64 ((numJ xs 6 : Nat) : Int), .int .u64 ((numJ xs 7 : Nat) : Int)]
/-- The first k of them. -/
def tabK (xs : List Nat) (k : Nat) : Array Value := #[.int .u64 ((if 0 < k then numJ xs 0 else 0 : Nat) : Int), .int .u64 ((if 1 < k then numJ xs 1 else 0 : Nat) : Int), .int .u64 ((if 2 < k then numJ xs 2 else 0 : Nat) : Int), .int .u64 ((if 3 < k then numJ xs 3 else 0 : Nat) : Int), .int .u64 ((if 4 < k then numJ xs 4 else 0 : Nat) : Int), .int .u64 ((if 5 < k then numJ xs 5 else 0 : Nat) : Int), .int .u64 ((if 6 < k then numJ xs 6 else 0 : Nat) : Int), .int .u64 ((if 7 < k then numJ xs 7 else 0 : Nat) : Int)]
theorem eight_ {k : Nat} (h : k < 8) : k = 0 ∨ k = 1 ∨ k = 2 ∨ k = 3 ∨ k = 4 ∨ k = 5 ∨ k = 6 ∨ k = 7 := by omega
theorem tabK_at (xs : List Nat) {k : Nat} (h : k < 8) : (tabK xs k)[k]? = some (.int .u64 0) := by
  rcases eight_ h with rfl | rfl | rfl | rfl | rfl | rfl | rfl | rfl <;> rfl
theorem tabK_next (xs : List Nat) {k : Nat} (h : k < 8) : (tabK xs k).setIfInBounds k (.int .u64 ((numJ xs k : Nat) : Int)) = tabK xs (k + 1) := by
  rcases eight_ h with rfl | rfl | rfl | rfl | rfl | rfl | rfl | rfl <;> rfl
theorem tabV_at (xs : List Nat) {k : Nat} (h : k < 8) : (tabV xs)[k]? = some (.int .u64 ((numJ xs k : Nat) : Int)) := by
  rcases eight_ h with rfl | rfl | rfl | rfl | rfl | rfl | rfl | rfl <;> rfl
def tabW (w : World) (g : Nat) (X : List Nat) : World := ((((((((w.setCell ⟨g, 0, none⟩ (.int .u64 ((numJ X 0 : Nat) : Int))).setCell ⟨g, 1, none⟩ (.int .u64 ((numJ X 1 : Nat) : Int))).setCell ⟨g, 2, none⟩ (.int .u64 ((numJ X 2 : Nat) : Int))).setCell ⟨g, 3, none⟩ (.int .u64 ((numJ X 3 : Nat) : Int))).setCell ⟨g, 4, none⟩ (.int .u64 ((numJ X 4 : Nat) : Int))).setCell ⟨g, 5, none⟩ (.int .u64 ((numJ X 5 : Nat) : Int))).setCell ⟨g, 6, none⟩ (.int .u64 ((numJ X 6 : Nat) : Int))).setCell ⟨g, 7, none⟩ (.int .u64 ((numJ X 7 : Nat) : Int)))
theorem tab_stored {w : World} {g : Nat} {t : TypeId} {X : List Nat} (h : Blk w g t (tabK X 0)) : Blk (tabW w g X) g t (tabV X) := ((((((((((((((((h.set_ 0 _).eq_ (tabK_next X (show 0 < 8 by omega))).set_ 1 _).eq_ (tabK_next X (show 1 < 8 by omega))).set_ 2 _).eq_ (tabK_next X (show 2 < 8 by omega))).set_ 3 _).eq_ (tabK_next X (show 3 < 8 by omega))).set_ 4 _).eq_ (tabK_next X (show 4 < 8 by omega))).set_ 5 _).eq_ (tabK_next X (show 5 < 8 by omega))).set_ 6 _).eq_ (tabK_next X (show 6 < 8 by omega))).set_ 7 _).eq_ (tabK_next X (show 7 < 8 by omega)))
theorem tab_below {w0 w : World} {B g : Nat} {X : List Nat} (h : Below B w0 w) (hg : B ≤ g) : Below B w0 (tabW w g X) := ((((((((h.setCell (p := ⟨g, 0, none⟩) hg _).setCell (p := ⟨g, 1, none⟩) hg _).setCell (p := ⟨g, 2, none⟩) hg _).setCell (p := ⟨g, 3, none⟩) hg _).setCell (p := ⟨g, 4, none⟩) hg _).setCell (p := ⟨g, 5, none⟩) hg _).setCell (p := ⟨g, 6, none⟩) hg _).setCell (p := ⟨g, 7, none⟩) hg _)
theorem Try.sizeTab : (Try.prog.info? 99).map (·.size) = some 8 := by kernel_rfl
theorem Blk.bts {w : World} {g B : Nat} {xs : List Nat} (h : Blk w g 5 (xs.map bv).toArray) (hg : g < B) (hx : ∀ y ∈ xs, y < 256) (hl : xs.length ≤ maxLen) (n : Nat) (hn : xs.length = n) : Bts w B (.slice (some ⟨g, 0, none⟩) n n) xs := by
  subst hn
  refine ⟨_, _, _, rfl, rfl, hl, ⟨Nat.le_refl _, fun e => by cases e⟩, hl, fun j hj => ?_, fun h0 => ⟨g, 0, rfl, hg, fun j hj => ?_⟩⟩
  · have e : xs.getD j 0 = xs[j] := by simp [hj]
    rw [e]
    exact hx _ (List.getElem_mem _)
  · rw [h.cell, Nat.zero_add]
    simp [bv, hj]
set_option maxRecDepth 20000 in
set_option maxHeartbeats 1600000 in
theorem tread_ok (gT gR gF gP r gS f : Nat) (F : Nat → List Nat) (bad : Nat → Bool) (w : World) (hT : TreeB w gT gR gP r gS) (hM : Mem w gR gF 1024 F bad) (hf : f < 1024) (hb : bad f = false) :
    Calls Try.prog 53 #[.pointer (some ⟨gT, 0, none⟩), .int .i64 (f : Int)] w fun e w' => e = .returned (.tuple #[.agg (tabV (F f)), .int .i64 0]) ∧ Below w.heap.size w w' := by
  have hM' : Mem (w.alloc (.cells (tabK (F f) 0) 99)) gR gF 1024 F bad := hM.alloc _
  have RD := Lib.hid (read_yes gR gF 1024 F bad f 0 64 _ hM' hf (by omega) hb)
  have HBY := Lib.hid (hM.byte hf)
  have HLN := Lib.hid (hM.long hf)
  have c0 : (w.alloc (.cells #[.int .u64 0, .int .u64 0, .int .u64 0, .int .u64 0, .int .u64 0, .int .u64 0, .int .u64 0, .int .u64 0] 99)).cell? ⟨gT, 0, none⟩ = some (.pointer (some ⟨gR, 0, none⟩)) := Blk.cell (Blk.al hT _) 0
  have B0 := Lib.hid (Blk.new w 99 (tabK (F f) 0))
  have HB0 := Lib.hid ((Below.refl w.heap.size w).alloc (Nat.le_refl _) (.cells (tabK (F f) 0) 99))
  have HW := Lib.hid (win_whole (F f) 64 HLN.out)
  clear hM hM' hT hb
  obtain ⟨X, hX⟩ : ∃ X, X = F f := ⟨_, rfl⟩
  rw [← hX] at RD HBY HLN B0 HB0 HW ⊢
  clear hX
  go_enter Try.func53, Try.ntmps53
  go_wp2_with fail
  refine RD.out.mono ?_
  rintro e w1 ⟨rfl, h1, h2, h3⟩
  rw [World.size_alloc] at h1 h2 h3 ⊢
  have HBY1 := Lib.hid (h1.bts (B := w1.heap.size) h1.lt (by rw [HW.out]; exact HBY.out) (by rw [HW.out, HLN.out]; decide) 64 (by rw [HW.out]; exact HLN.out))
  have HB1 := Lib.hid (HB0.out.trans (h2.mono (by simp)))
  have B1 := Lib.hid (B0.out.below h2 (by simp))
  have H3 := Lib.hid h3
  clear h1 h2 h3
  have R2 := Lib.hid (Blk.new w1 99 (tabK X 0))
  have HB2 := Lib.hid ((Below.refl w1.heap.size w1).alloc (Nat.le_refl _) (.cells (tabK X 0) 99))
  go_wp2_with fail
  go_loopg [9, 23] 8 (fun gg _ s23 wx => ∃ k : Nat, k + gg = 8 ∧ s23 = .int .i64 (k : Int) ∧ Blk wx w1.heap.size 99 (tabK X k) ∧ Below w1.heap.size w1 wx)
  case atStart => exact ⟨0, rfl, rfl, R2.out, HB2.out⟩
  case round =>
    obtain ⟨k, hkg, rfl, hr, hb⟩ := hrel
    have HR := Lib.hid hr
    have HBX := Lib.hid hb
    by_cases hlt : k < 8
    · have t1 : decide ((k : Int) < 8) = true := decide_eq_true (by omega)
      have GT := Lib.hid (get_yes _ _ w1.heap.size ((k : Int) * 8) 8 wr (HBY1.out.below hb) (by rw [HW.out, HLN.out]; unfold Fit; omega))
      have GV := Lib.hid (show getV (win X 0 64) ((k : Int) * 8) 8 = ((numJ X k : Nat) : Int) from by
        unfold getV numJ
        rw [HW.out, show ((k : Int) * 8).toNat = 8 * k by omega]
        rfl)
      have fz : wr.frozen? ⟨w1.heap.size, k, none⟩ = false := hr.frozen _
      have cz : wr.cell? ⟨w1.heap.size, k, none⟩ = some (.int .u64 0) := by rw [hr.cell]; exact tabK_at X hlt
      rw [GV.out] at GT
      clear hr hb
      go_wp2_with (go_at_call 69; refine GT.out.mono ?_; rintro e w' ⟨rfl, rfl⟩)
      go_roundg (8 - (k + 1))
      case measure => omega
      case rel => exact ⟨k + 1, by omega, by go_num, (HR.out.set_ _ _).eq_ (tabK_next X hlt), HBX.out.setCell (Nat.le_refl _) _⟩
    · obtain rfl : k = 8 := by omega
      have BR := Lib.hid (B1.out.below hb B1.out.lt)
      have c0 : wr.cell? ⟨w1.heap.size, 0, none⟩ = some (.int .u64 ((numJ X 0 : Nat) : Int)) := hr.cell 0
      have c1 : wr.cell? ⟨w1.heap.size, 1, none⟩ = some (.int .u64 ((numJ X 1 : Nat) : Int)) := hr.cell 1
      have c2 : wr.cell? ⟨w1.heap.size, 2, none⟩ = some (.int .u64 ((numJ X 2 : Nat) : Int)) := hr.cell 2
      have c3 : wr.cell? ⟨w1.heap.size, 3, none⟩ = some (.int .u64 ((numJ X 3 : Nat) : Int)) := hr.cell 3
      have c4 : wr.cell? ⟨w1.heap.size, 4, none⟩ = some (.int .u64 ((numJ X 4 : Nat) : Int)) := hr.cell 4
      have c5 : wr.cell? ⟨w1.heap.size, 5, none⟩ = some (.int .u64 ((numJ X 5 : Nat) : Int)) := hr.cell 5
      have c6 : wr.cell? ⟨w1.heap.size, 6, none⟩ = some (.int .u64 ((numJ X 6 : Nat) : Int)) := hr.cell 6
      have c7 : wr.cell? ⟨w1.heap.size, 7, none⟩ = some (.int .u64 ((numJ X 7 : Nat) : Int)) := hr.cell 7
      have b0 : wr.cell? ⟨w.heap.size, 0, none⟩ = some (.int .u64 0) := BR.out.cell 0
      have f0 : wr.frozen? ⟨w.heap.size, 0, none⟩ = false := BR.out.frozen 0
      have b1 : wr.cell? ⟨w.heap.size, 1, none⟩ = some (.int .u64 0) := BR.out.cell 1
      have f1 : wr.frozen? ⟨w.heap.size, 1, none⟩ = false := BR.out.frozen 1
      have b2 : wr.cell? ⟨w.heap.size, 2, none⟩ = some (.int .u64 0) := BR.out.cell 2
      have f2 : wr.frozen? ⟨w.heap.size, 2, none⟩ = false := BR.out.frozen 2
      have b3 : wr.cell? ⟨w.heap.size, 3, none⟩ = some (.int .u64 0) := BR.out.cell 3
      have f3 : wr.frozen? ⟨w.heap.size, 3, none⟩ = false := BR.out.frozen 3
      have b4 : wr.cell? ⟨w.heap.size, 4, none⟩ = some (.int .u64 0) := BR.out.cell 4
      have f4 : wr.frozen? ⟨w.heap.size, 4, none⟩ = false := BR.out.frozen 4
      have b5 : wr.cell? ⟨w.heap.size, 5, none⟩ = some (.int .u64 0) := BR.out.cell 5
      have f5 : wr.frozen? ⟨w.heap.size, 5, none⟩ = false := BR.out.frozen 5
      have b6 : wr.cell? ⟨w.heap.size, 6, none⟩ = some (.int .u64 0) := BR.out.cell 6
      have f6 : wr.frozen? ⟨w.heap.size, 6, none⟩ = false := BR.out.frozen 6
      have b7 : wr.cell? ⟨w.heap.size, 7, none⟩ = some (.int .u64 0) := BR.out.cell 7
      have f7 : wr.frozen? ⟨w.heap.size, 7, none⟩ = false := BR.out.frozen 7
      clear hr hb
      go_wp2_with fail
      have HB3 : Below w.heap.size w wr := HB1.out.trans (HBX.out.mono HB1.out.size)
      have e := Lib.hid (tab_stored BR.out)
      have e2 := Lib.hid (tab_below (X := X) HB3 (Nat.le_refl w.heap.size))
      unfold tabW at e e2
      refine bodyPost_ret (results_row_tmp rfl _ _ w.heap.size 99 (tabV X) _ rfl e.out Try.underlying99 rfl (by kernel_rfl)) rfl ?_
      exact ⟨rfl, e2.out⟩
def tab0 : Array Value := #[.int .u64 0, .int .u64 0, .int .u64 0, .int .u64 0, .int .u64 0, .int .u64 0, .int .u64 0, .int .u64 0]
set_option maxRecDepth 20000 in
set_option maxHeartbeats 1600000 in
theorem tread_bad (gT gR gF gP r gS f : Nat) (F : Nat → List Nat) (bad : Nat → Bool) (w : World) (hT : TreeB w gT gR gP r gS) (hM : Mem w gR gF 1024 F bad) (hf : f < 1024) (hb : bad f = true) :
    Calls Try.prog 53 #[.pointer (some ⟨gT, 0, none⟩), .int .i64 (f : Int)] w fun e w' => e = .returned (.tuple #[.agg tab0, .int .i64 7]) ∧ Below w.heap.size w w' := by
  have hM' : Mem (w.alloc (.cells #[.int .u64 0, .int .u64 0, .int .u64 0, .int .u64 0, .int .u64 0, .int .u64 0, .int .u64 0, .int .u64 0] 99)) gR gF 1024 F bad := hM.alloc _
  have RD := Lib.hid (read_err _ _ _ _ 7 _ (by omega) (piece_bad gR gF 1024 F bad f 0 64 _ hM' hf (by omega) hb))
  have c0 : (w.alloc (.cells #[.int .u64 0, .int .u64 0, .int .u64 0, .int .u64 0, .int .u64 0, .int .u64 0, .int .u64 0, .int .u64 0] 99)).cell? ⟨gT, 0, none⟩ = some (.pointer (some ⟨gR, 0, none⟩)) := Blk.cell (Blk.al hT _) 0
  have B0 := Lib.hid (Blk.new w 99 #[.int .u64 0, .int .u64 0, .int .u64 0, .int .u64 0, .int .u64 0, .int .u64 0, .int .u64 0, .int .u64 0])
  have HB0 := Lib.hid ((Below.refl w.heap.size w).alloc (Nat.le_refl _) (.cells #[.int .u64 0, .int .u64 0, .int .u64 0, .int .u64 0, .int .u64 0, .int .u64 0, .int .u64 0, .int .u64 0] 99))
  clear hM hM' hT hb
  go_enter Try.func53, Try.ntmps53
  go_wp2_with fail
  refine RD.out.mono ?_
  rintro e w1 ⟨rfl, rfl⟩
  go_wp2_with fail
  refine bodyPost_ret (results_row_tmp rfl _ _ w.heap.size 99 tab0 _ rfl B0.out Try.underlying99 rfl (by kernel_rfl)) rfl ?_
  exact ⟨rfl, HB0.out⟩
theorem putV_8 (v : Nat) : putV (zs 8) 0 v 8 = ((numL v 8).map bv).toArray := by
  apply Array.ext_getElem?
  intro j
  rw [putV_at _ _ _ _ _ (by rw [zs, Array.size_replicate]; omega)]
  by_cases c : j < 8
  · rw [if_pos (by omega)]
    simp [numL, c]
  · rw [if_neg (by omega)]
    simp [numL, zs, c]
set_option maxRecDepth 20000 in
set_option maxHeartbeats 800000 in
theorem twrite_any (gT gR gF gP r gS f d v : Nat) (F : Nat → List Nat) (bad : Nat → Bool) (w : World) (hT : TreeB w gT gR gP r gS) (hM : Mem w gR gF 1024 F bad) (hf : f < 1024) (hb : bad f = false) (hd : d < 8) (hv : v < 18446744073709551616) (hne : gT ≠ gF) :
    Calls Try.prog 55 #[.pointer (some ⟨gT, 0, none⟩), .int .i64 (f : Int), .int .i64 (d : Int), .int .u64 (v : Int)] w fun e w' => e = .returned (.tuple #[]) ∧ Mem w' gR gF 1024 (wrF F f d v) bad ∧ Turns (fun k => k = gF) w w' := by
  have hmk : (Instr.makeSlice 112 (.int .i64 8) (.int .i64 8)).run Try.prog w = .ok (.slice (some ⟨w.heap.size, 0, none⟩) 8 8) (w.alloc (.cells (zs 8) 5)) := make_zs 8 (by omega) w
  have B0 := Lib.hid (Blk.new w 5 (zs 8))
  have HB0 := Lib.hid ((Below.refl w.heap.size w).alloc (Nat.le_refl _) (.cells (zs 8) 5))
  have PT := Lib.hid (put_yes w.heap.size 0 8 8 v 5 (zs 8) 0 8 (w.alloc (.cells (zs 8) 5)) (by decide) (by unfold Fit; omega) B0.out (by rw [zs, Array.size_replicate]; omega))
  have HM := Lib.hid hM
  have HT := Lib.hid hT
  clear hM hT
  go_enter Try.func55, Try.ntmps55
  go_wp2_with fail
  refine PT.out.mono ?_
  rintro e w1 ⟨rfl, h1, h2, h3⟩
  have hO : Only w.heap.size (w.alloc (.cells (zs 8) 5)) w1 := ⟨h2, h3⟩
  have hB1 : Below w.heap.size w w1 := HB0.out.trans (hO.below (Nat.le_refl _) (by simp))
  have hM1 : Mem w1 gR gF 1024 F bad := HM.out.below hB1 HM.out.lt.1 HM.out.lt.2
  have hT1 : TreeB w1 gT gR gP r gS := Blk.below HT.out hB1 (Blk.lt HT.out)
  rw [show (0 : Nat) + (0 : Int).toNat = 0 from rfl, show (8 : Int).toNat = 8 from rfl, putV_8] at h1
  have hbts : Bts w1 w1.heap.size (.slice (some ⟨w.heap.size, 0, none⟩) 8 8) (numL v 8) := h1.bts h1.lt (numL_byte v 8) (by rw [numL_length]; decide) 8 (numL_length v 8)
  have WR := Lib.hid (write_yes gR gF 1024 F bad f (8 * d) w1.heap.size _ (numL v 8) w1 hM1 hf (by rw [numL_length]; omega) hb hbts)
  rw [show ((8 * d : Nat) : Int) = (d : Int) * 8 by omega] at WR
  have HB1 := Lib.hid hB1
  have c0 : w1.cell? ⟨gT, 0, none⟩ = some (.pointer (some ⟨gR, 0, none⟩)) := Blk.cell hT1 0
  clear h1 h2 h3 hO hB1 hM1 hT1 hbts
  go_wp2_with fail
  refine WR.out.mono ?_
  rintro e w2 ⟨rfl, h1, h2⟩
  have H1 := Lib.hid h1
  have HT2 := Lib.hid ((Turns.of_below HB1.out (Nat.le_refl _)).trans (Turns.of_only h2 rfl : Turns (fun k => k = gF) w1 w2))
  clear h1 h2
  go_wp2_with fail
  (try simp only [Exit.inBlock, Exit.then])
  refine bodyPost_end (results_none rfl _ _ _) rfl ?_
  exact ⟨rfl, H1.out, HT2.out⟩
theorem Try.infoU64t : (Try.prog.info? 64).map (fun i => i.size) = some 1 := by kernel_rfl
theorem Try.cellsU64t : Try.prog.cellsOf 64 = 1 := by kernel_rfl
theorem eqItems_u64 (d : Nat) (xs ys : Array Value) (x y : Nat → Int) (w : World) : ∀ is : List Nat, (∀ i ∈ is, xs[i]? = some (.int .u64 (x i)) ∧ ys[i]? = some (.int .u64 (y i))) →
    (Op.eqItems (d + 1) 64 1 xs ys is).run Try.prog w = .ok (is.all (fun i => x i == y i)) w
  | [], _ => rfl
  | i :: is, h => by
    obtain ⟨h1, h2⟩ := h i (List.mem_cons_self ..)
    have ih := eqItems_u64 d xs ys x y w is (fun k hk => h k (List.mem_cons_of_mem _ hk))
    have p1 := run_part_plain (P := Try.prog) (e := 64) (w := w) (by kernel_rfl) h1
    have p2 := run_part_plain (P := Try.prog) (e := 64) (w := w) (by kernel_rfl) h2
    have q := run_equalIn_int w d 64 .u64 .u64 (x i) (y i) Try.underlying64
    rw [Op.eqItems]
    simp only [Sem.run_bind, Nat.mul_one, p1, p2, q, Result.andThen_ok]
    rw [List.all_cons]
    cases x i == y i with
    | true => rw [Bool.true_and]; exact ih
    | false => rfl
theorem tab_equal_ (d n0 n1 n2 n3 n4 n5 n6 n7 : Nat) (w : World) : (Op.equalIn (d + 1 + 1) 99 (.agg #[.int .u64 (n0 : Int), .int .u64 (n1 : Int), .int .u64 (n2 : Int), .int .u64 (n3 : Int), .int .u64 (n4 : Int), .int .u64 (n5 : Int), .int .u64 (n6 : Int), .int .u64 (n7 : Int)]) (.agg #[.int .u64 0, .int .u64 0, .int .u64 0, .int .u64 0, .int .u64 0, .int .u64 0, .int .u64 0, .int .u64 0])).run Try.prog w = .ok (((n0 : Int) == 0) && (((n1 : Int) == 0) && (((n2 : Int) == 0) && (((n3 : Int) == 0) && (((n4 : Int) == 0) && (((n5 : Int) == 0) && (((n6 : Int) == 0) && (((n7 : Int) == 0))))))))) w := by
  obtain ⟨i, hi1, _⟩ := Option.map_eq_some_iff.1 Try.infoU64t
  rw [run_equalIn_array w (d + 1) _ _ Try.underlying99 hi1, Try.cellsU64t]
  rw [eqItems_u64 d _ _ (fun i => (([n0, n1, n2, n3, n4, n5, n6, n7].getD i 0 : Nat) : Int)) (fun _ => 0) w _ (fun i hi => by
    rcases eight_ (List.mem_range.1 hi) with rfl | rfl | rfl | rfl | rfl | rfl | rfl | rfl <;> exact ⟨rfl, rfl⟩)]
  refine congrArg (fun b => Result.ok b w) ?_
  rw [show List.range 8 = [0, 1, 2, 3, 4, 5, 6, 7] from rfl]
  simp only [List.all_cons, List.all_nil, Bool.and_true]
  rfl
theorem beq0 (n : Nat) : ((n : Int) == 0) = decide (n = 0) := by
  by_cases h : n = 0
  · subst h; rfl
  · rw [decide_eq_false h]
    simp [h]
theorem tab_equal (n0 n1 n2 n3 n4 n5 n6 n7 : Nat) (w : World) : (Op.equalIn 10000 99 (.agg #[.int .u64 (n0 : Int), .int .u64 (n1 : Int), .int .u64 (n2 : Int), .int .u64 (n3 : Int), .int .u64 (n4 : Int), .int .u64 (n5 : Int), .int .u64 (n6 : Int), .int .u64 (n7 : Int)]) (.agg #[.int .u64 0, .int .u64 0, .int .u64 0, .int .u64 0, .int .u64 0, .int .u64 0, .int .u64 0, .int .u64 0])).run Try.prog w = .ok (((n0 : Int) == 0) && (((n1 : Int) == 0) && (((n2 : Int) == 0) && (((n3 : Int) == 0) && (((n4 : Int) == 0) && (((n5 : Int) == 0) && (((n6 : Int) == 0) && (((n7 : Int) == 0))))))))) w := tab_equal_ 9998 n0 n1 n2 n3 n4 n5 n6 n7 w
theorem tempty_eq (xs : List Nat) : emptyB xs = (decide (numJ xs 0 = 0) && (decide (numJ xs 1 = 0) && (decide (numJ xs 2 = 0) && (decide (numJ xs 3 = 0) && (decide (numJ xs 4 = 0) && (decide (numJ xs 5 = 0) && (decide (numJ xs 6 = 0) && decide (numJ xs 7 = 0)))))))) := by
  unfold emptyB
  simp [List.range_succ, Bool.and_assoc]
set_option maxRecDepth 20000 in
set_option maxHeartbeats 1600000 in
theorem tempty_any (gT gR gF gP r gS f : Nat) (F : Nat → List Nat) (bad : Nat → Bool) (w : World) (hT : TreeB w gT gR gP r gS) (hM : Mem w gR gF 1024 F bad) (hf : f < 1024) (hb : bad f = false) :
    Calls Try.prog 56 #[.pointer (some ⟨gT, 0, none⟩), .int .i64 (f : Int)] w fun e w' => e = .returned (.bool (emptyB (F f))) ∧ Below w.heap.size w w' := by
  have RD := Lib.hid (tread_ok gT gR gF gP r gS f F bad w hT hM hf hb)
  have TE := Lib.hid (tempty_eq (F f))
  unfold tabV at RD
  rw [TE.out]
  generalize numJ (F f) 0 = n0 at RD TE ⊢
  generalize numJ (F f) 1 = n1 at RD TE ⊢
  generalize numJ (F f) 2 = n2 at RD TE ⊢
  generalize numJ (F f) 3 = n3 at RD TE ⊢
  generalize numJ (F f) 4 = n4 at RD TE ⊢
  generalize numJ (F f) 5 = n5 at RD TE ⊢
  generalize numJ (F f) 6 = n6 at RD TE ⊢
  generalize numJ (F f) 7 = n7 at RD TE ⊢
  clear TE hM hT
  go_enter Try.func56, Try.ntmps56
  go_wp2_with fail
  refine RD.out.mono ?_
  rintro e w1 ⟨rfl, h1⟩
  have HB1 := Lib.hid (h1.alloc h1.size (.cells #[.int .u64 (n0 : Int), .int .u64 (n1 : Int), .int .u64 (n2 : Int), .int .u64 (n3 : Int), .int .u64 (n4 : Int), .int .u64 (n5 : Int), .int .u64 (n6 : Int), .int .u64 (n7 : Int)] 99))
  clear h1
  have te := tab_equal n0 n1 n2 n3 n4 n5 n6 n7
  go_wp2_with fail
  go_ret
  exact ⟨by simp only [beq0]; rfl, HB1.out⟩
end Go.Proofs.Ytegoookllckhiaa
