/-
  A round's middle part in RamPlays: Read.
  Conditions: none beside what the rounds keep.
-/
import Derived.Test.YtlodeejeeldplaaPlayArmD
import Derived.Test.YtlodeejeeldplaaCopies
import Derived.Deep.RegionHeld3
import Derived.Deep.DrawnRows
import Derived.Deep.QuietTactic
import Derived.BigQuiet
namespace Go.Proofs.Ytlodeejeeldplaa
open Go.RowKit
set_option linter.unusedVariables false

set_option maxRecDepth 100000 in
set_option maxHeartbeats 3200000 in
theorem arm0_no (w0 : World) (v0 va : Value) (gL gA n k kk : Nat) (F : Nat → List Nat) (c : Nat → Nat) (x : ActD) (a : Act) (w : World)
    (h : PlayL1 a v0 va (.pointer (some ⟨w0.heap.size + 1, 0, none⟩)) (.int .i64 n) (.pointer (some ⟨gL, 0, none⟩)) (.pointer (some ⟨gL + 1, 0, none⟩)) (.int .i64 k) (.pointer (some ⟨gA, 0, none⟩)) (.bool false) (.int .i64 kk) (.bool false) (.int .i64 0) (.int .i64 x.what))
    (hs : St w0 gL n k F c w) (hk80 : k ≤ 1000) (hg : gL + 2 ≤ gA) (hb : Blk w gA 33 #[.int .i64 x.what, .int .i64 x.f, .int .i64 x.at_, .int .i64 x.n, x.v]) (hx : Bts w w0.heap.size x.v x.xs) (hi : I64 x.f ∧ I64 x.at_ ∧ I64 x.n)
    (hw : x.what = 0) (hf : x.f < 0 ∨ (n : Int) ≤ x.f) :
    Runs Try.prog cSw a w (ArmP w0 v0 va gL gA n k kk false x) := by
  obtain ⟨u, rfl⟩ := h.open_
  obtain ⟨wh, f, p, q, v, xs⟩ := x
  obtain ⟨vA, vl, vc, rfl, hvl, hvm, -⟩ := id hx
  have hn := hs.2.1.few
  have HS := Lib.hid hs
  have HB := Lib.hid hb
  have HX := Lib.hid hx
  have HI := Lib.hid hi
  have HVL := Lib.hid hvl
  unfold maxLen at hvm
  clear hs hx h hi hvl
  obtain rfl : wh = 0 := hw
  have hc1 : w.cell? ⟨gA, 1, none⟩ = some (.int .i64 f) := by rw [hb.cell]; rfl
  have hc2 : w.cell? ⟨gA, 2, none⟩ = some (.int .i64 p) := by rw [hb.cell]; rfl
  have hc3 : w.cell? ⟨gA, 3, none⟩ = some (.int .i64 q) := by rw [hb.cell]; rfl
  have HP := Lib.hid (read_err _ f p q 1 w (by omega) (piece_none _ _ _ _ _ f p q w HS.out.2.1 hf))
  clear hb hf
  unfold Runs
  conv => arg 2; whnf
  go_wp2_with fail
  refine HP.out.mono ?_
  rintro e w1 ⟨rfl, rfl⟩
  go_wp2_with fail
  go_quiet (fail)
  go_wp2
  exact ⟨F, c, ⟨rfl, rfl, rfl, rfl, rfl, rfl, rfl, rfl, rfl, rfl, rfl, rfl⟩, (HS.out.drewN nq).more (by omega), HB.out.drewN nq⟩
set_option maxRecDepth 100000 in
set_option maxHeartbeats 3200000 in
theorem arm0_out (w0 : World) (v0 va : Value) (gL gA n k kk : Nat) (F : Nat → List Nat) (c : Nat → Nat) (x : ActD) (a : Act) (w : World)
    (h : PlayL1 a v0 va (.pointer (some ⟨w0.heap.size + 1, 0, none⟩)) (.int .i64 n) (.pointer (some ⟨gL, 0, none⟩)) (.pointer (some ⟨gL + 1, 0, none⟩)) (.int .i64 k) (.pointer (some ⟨gA, 0, none⟩)) (.bool true) (.int .i64 kk) (.bool false) (.int .i64 0) (.int .i64 x.what))
    (hs : St w0 gL n k F c w) (hk80 : k ≤ 1000) (hg : gL + 2 ≤ gA) (hb : Blk w gA 33 #[.int .i64 x.what, .int .i64 x.f, .int .i64 x.at_, .int .i64 x.n, x.v]) (hx : Bts w w0.heap.size x.v x.xs) (hi : I64 x.f ∧ I64 x.at_ ∧ I64 x.n)
    (hw : x.what = 0) (hf : x.f = kk) (hkk : kk < n) (hp : x.at_ < 0 ∨ 64 < x.at_) :
    Runs Try.prog cSw a w (ArmP w0 v0 va gL gA n k kk true x) := by
  obtain ⟨u, rfl⟩ := h.open_
  obtain ⟨wh, f, p, q, v, xs⟩ := x
  obtain ⟨vA, vl, vc, rfl, hvl, hvm, -⟩ := id hx
  have hn := hs.2.1.few
  have HS := Lib.hid hs
  have HB := Lib.hid hb
  have HX := Lib.hid hx
  have HI := Lib.hid hi
  have HVL := Lib.hid hvl
  unfold maxLen at hvm
  clear hs hx h hi hvl
  obtain rfl : wh = 0 := hw
  obtain rfl : f = kk := hf
  have g1 : (0 : Int) ≤ (kk : Int) := by omega
  have g2 : (kk : Int) < 1024 := by omega
  have hc1 : w.cell? ⟨gA, 1, none⟩ = some (.int .i64 (kk : Int)) := by rw [hb.cell]; rfl
  have hc2 : w.cell? ⟨gA, 2, none⟩ = some (.int .i64 p) := by rw [hb.cell]; rfl
  have hc3 : w.cell? ⟨gA, 3, none⟩ = some (.int .i64 q) := by rw [hb.cell]; rfl
  simp only at hp
  have hq64 := HI.out.2.2
  unfold I64 at hq64
  simp only at hq64
  have HP := Lib.hid (read_err _ (kk : Int) p q 1 w (by omega) (piece_out _ _ _ _ _ kk p q w HS.out.2.1 hkk (by unfold Out64; omega) hq64.2))
  clear hb hp
  unfold Runs
  conv => arg 2; whnf
  go_wp2_with fail
  refine HP.out.mono ?_
  rintro e w1 ⟨rfl, rfl⟩
  go_wp2_with fail
  go_quiet (fail)
  go_wp2
  exact ⟨F, c, ⟨rfl, rfl, rfl, rfl, rfl, rfl, rfl, rfl, rfl, rfl, rfl, rfl⟩, (HS.out.drewN nq).more (by omega), HB.out.drewN nq⟩
set_option maxRecDepth 100000 in
set_option maxHeartbeats 3200000 in
theorem arm0_neg (w0 : World) (v0 va : Value) (gL gA n k kk : Nat) (F : Nat → List Nat) (c : Nat → Nat) (x : ActD) (a : Act) (w : World)
    (h : PlayL1 a v0 va (.pointer (some ⟨w0.heap.size + 1, 0, none⟩)) (.int .i64 n) (.pointer (some ⟨gL, 0, none⟩)) (.pointer (some ⟨gL + 1, 0, none⟩)) (.int .i64 k) (.pointer (some ⟨gA, 0, none⟩)) (.bool true) (.int .i64 kk) (.bool true) (.int .i64 0) (.int .i64 x.what))
    (hs : St w0 gL n k F c w) (hk80 : k ≤ 1000) (hg : gL + 2 ≤ gA) (hb : Blk w gA 33 #[.int .i64 x.what, .int .i64 x.f, .int .i64 x.at_, .int .i64 x.n, x.v]) (hx : Bts w w0.heap.size x.v x.xs) (hi : I64 x.f ∧ I64 x.at_ ∧ I64 x.n)
    (s : Nat) (hw : x.what = 0) (hf : x.f = kk) (hkk : kk < n) (hp : x.at_ = s) (hs64 : s ≤ 64) (hq : x.n < 0) :
    Runs Try.prog cSw a w (ArmP w0 v0 va gL gA n k kk true x) := by
  obtain ⟨u, rfl⟩ := h.open_
  obtain ⟨wh, f, p, q, v, xs⟩ := x
  obtain ⟨vA, vl, vc, rfl, hvl, hvm, -⟩ := id hx
  have hn := hs.2.1.few
  have HS := Lib.hid hs
  have HB := Lib.hid hb
  have HX := Lib.hid hx
  have HI := Lib.hid hi
  have HVL := Lib.hid hvl
  unfold maxLen at hvm
  clear hs hx h hi hvl
  obtain rfl : wh = 0 := hw
  simp only at hq
  obtain rfl : f = kk := hf
  have g1 : (0 : Int) ≤ (kk : Int) := by omega
  have g2 : (kk : Int) < 1024 := by omega
  obtain rfl : p = s := hp
  have g3 : (0 : Int) ≤ (s : Int) := by omega
  have g4 : (s : Int) ≤ 64 := by omega
  have hc1 : w.cell? ⟨gA, 1, none⟩ = some (.int .i64 (kk : Int)) := by rw [hb.cell]; rfl
  have hc2 : w.cell? ⟨gA, 2, none⟩ = some (.int .i64 (s : Int)) := by rw [hb.cell]; rfl
  have hc3 : w.cell? ⟨gA, 3, none⟩ = some (.int .i64 q) := by rw [hb.cell]; rfl
  have t1 : decide (q < 0) = true := decide_eq_true hq
  have HP := Lib.hid (read_err _ (kk : Int) (s : Int) q 1 w (by omega) (piece_out _ _ _ _ _ kk s q w HS.out.2.1 hkk (by unfold Out64; omega) (by omega)))
  clear hb
  unfold Runs
  conv => arg 2; whnf
  go_wp2_with fail
  refine HP.out.mono ?_
  rintro e w1 ⟨rfl, rfl⟩
  go_wp2_with fail
  go_quiet (fail)
  go_wp2
  exact ⟨F, c, ⟨rfl, rfl, rfl, rfl, rfl, rfl, rfl, rfl, rfl, rfl, rfl, rfl⟩, (HS.out.drewN nq).more (by omega), HB.out.drewN nq⟩
set_option maxRecDepth 100000 in
set_option maxHeartbeats 3200000 in
theorem arm0_long (w0 : World) (v0 va : Value) (gL gA n k kk : Nat) (F : Nat → List Nat) (c : Nat → Nat) (x : ActD) (a : Act) (w : World)
    (h : PlayL1 a v0 va (.pointer (some ⟨w0.heap.size + 1, 0, none⟩)) (.int .i64 n) (.pointer (some ⟨gL, 0, none⟩)) (.pointer (some ⟨gL + 1, 0, none⟩)) (.int .i64 k) (.pointer (some ⟨gA, 0, none⟩)) (.bool true) (.int .i64 kk) (.bool true) (.int .i64 0) (.int .i64 x.what))
    (hs : St w0 gL n k F c w) (hk80 : k ≤ 1000) (hg : gL + 2 ≤ gA) (hb : Blk w gA 33 #[.int .i64 x.what, .int .i64 x.f, .int .i64 x.at_, .int .i64 x.n, x.v]) (hx : Bts w w0.heap.size x.v x.xs) (hi : I64 x.f ∧ I64 x.at_ ∧ I64 x.n)
    (s r : Nat) (hw : x.what = 0) (hf : x.f = kk) (hkk : kk < n) (hp : x.at_ = s) (hs64 : s ≤ 64) (hq : x.n = r) (hl : 64 < s + r) :
    Runs Try.prog cSw a w (ArmP w0 v0 va gL gA n k kk true x) := by
  obtain ⟨u, rfl⟩ := h.open_
  obtain ⟨wh, f, p, q, v, xs⟩ := x
  obtain ⟨vA, vl, vc, rfl, hvl, hvm, -⟩ := id hx
  have hn := hs.2.1.few
  have HS := Lib.hid hs
  have HB := Lib.hid hb
  have HX := Lib.hid hx
  have HI := Lib.hid hi
  have HVL := Lib.hid hvl
  unfold maxLen at hvm
  clear hs hx h hi hvl
  obtain rfl : wh = 0 := hw
  obtain rfl : q = r := hq
  obtain rfl : f = kk := hf
  have g1 : (0 : Int) ≤ (kk : Int) := by omega
  have g2 : (kk : Int) < 1024 := by omega
  obtain rfl : p = s := hp
  have g3 : (0 : Int) ≤ (s : Int) := by omega
  have g4 : (s : Int) ≤ 64 := by omega
  have hc1 : w.cell? ⟨gA, 1, none⟩ = some (.int .i64 (kk : Int)) := by rw [hb.cell]; rfl
  have hc2 : w.cell? ⟨gA, 2, none⟩ = some (.int .i64 (s : Int)) := by rw [hb.cell]; rfl
  have hc3 : w.cell? ⟨gA, 3, none⟩ = some (.int .i64 (r : Int)) := by rw [hb.cell]; rfl
  have t1 : decide ((r : Int) < 0) = false := decide_eq_false (by omega)
  have t2 : decide ((64 : Int) - (s : Int) < (r : Int)) = true := decide_eq_true (by omega)
  have hq64 := HI.out.2.2
  unfold I64 at hq64
  simp only at hq64
  have HP := Lib.hid (read_err _ (kk : Int) (s : Int) (r : Int) 1 w (by omega) (piece_out _ _ _ _ _ kk s r w HS.out.2.1 hkk (by unfold Out64; omega) hq64.2))
  clear hb
  unfold Runs
  conv => arg 2; whnf
  go_wp2_with fail
  refine HP.out.mono ?_
  rintro e w1 ⟨rfl, rfl⟩
  go_wp2_with fail
  go_quiet (fail)
  go_wp2
  exact ⟨F, c, ⟨rfl, rfl, rfl, rfl, rfl, rfl, rfl, rfl, rfl, rfl, rfl, rfl⟩, (HS.out.drewN nq).more (by omega), HB.out.drewN nq⟩
set_option maxRecDepth 100000 in
set_option maxHeartbeats 3200000 in
theorem arm0_bad (w0 : World) (v0 va : Value) (gL gA n k kk : Nat) (F : Nat → List Nat) (c : Nat → Nat) (x : ActD) (a : Act) (w : World)
    (h : PlayL1 a v0 va (.pointer (some ⟨w0.heap.size + 1, 0, none⟩)) (.int .i64 n) (.pointer (some ⟨gL, 0, none⟩)) (.pointer (some ⟨gL + 1, 0, none⟩)) (.int .i64 k) (.pointer (some ⟨gA, 0, none⟩)) (.bool true) (.int .i64 kk) (.bool true) (.int .i64 0) (.int .i64 x.what))
    (hs : St w0 gL n k F c w) (hk80 : k ≤ 1000) (hg : gL + 2 ≤ gA) (hb : Blk w gA 33 #[.int .i64 x.what, .int .i64 x.f, .int .i64 x.at_, .int .i64 x.n, x.v]) (hx : Bts w w0.heap.size x.v x.xs) (hi : I64 x.f ∧ I64 x.at_ ∧ I64 x.n)
    (s r : Nat) (hw : x.what = 0) (hf : x.f = kk) (hkk : kk < n) (hp : x.at_ = s) (hq : x.n = r) (hl : s + r ≤ 64) (hc : 0 < c kk) :
    Runs Try.prog cSw a w (ArmP w0 v0 va gL gA n k kk true x) := by
  obtain ⟨u, rfl⟩ := h.open_
  obtain ⟨wh, f, p, q, v, xs⟩ := x
  obtain ⟨vA, vl, vc, rfl, hvl, hvm, -⟩ := id hx
  have hn := hs.2.1.few
  have HS := Lib.hid hs
  have HB := Lib.hid hb
  have HX := Lib.hid hx
  have HI := Lib.hid hi
  have HVL := Lib.hid hvl
  unfold maxLen at hvm
  clear hs hx h hi hvl
  obtain rfl : wh = 0 := hw
  obtain rfl : q = r := hq
  obtain rfl : f = kk := hf
  have g1 : (0 : Int) ≤ (kk : Int) := by omega
  have g2 : (kk : Int) < 1024 := by omega
  obtain rfl : p = s := hp
  have g3 : (0 : Int) ≤ (s : Int) := by omega
  have g4 : (s : Int) ≤ 64 := by omega
  have hc1 : w.cell? ⟨gA, 1, none⟩ = some (.int .i64 (kk : Int)) := by rw [hb.cell]; rfl
  have hc2 : w.cell? ⟨gA, 2, none⟩ = some (.int .i64 (s : Int)) := by rw [hb.cell]; rfl
  have hc3 : w.cell? ⟨gA, 3, none⟩ = some (.int .i64 (r : Int)) := by rw [hb.cell]; rfl
  have t1 : decide ((r : Int) < 0) = false := decide_eq_false (by omega)
  have t2 : decide ((64 : Int) - (s : Int) < (r : Int)) = false := decide_eq_false (by omega)
  have g5 : (0 : Int) ≤ (r : Int) := by omega
  have g6 : (s : Int) + (r : Int) ≤ 64 := by omega
  have hck := HS.out.2.2.2.1.cell (k := kk) (by omega)
  have HP := Lib.hid (read_err _ (kk : Int) (s : Int) (r : Int) 7 w (by omega) (piece_bad _ _ _ _ _ kk s r w HS.out.2.1 hkk hl (decide_eq_true hc)))
  obtain ⟨y, hy⟩ : ∃ y, y = c kk := ⟨_, rfl⟩
  rw [← hy] at hck hc
  have t3 : decide (0 < y) = true := decide_eq_true hc
  clear hb hy
  unfold Runs
  conv => arg 2; whnf
  go_wp2_with fail
  refine HP.out.mono ?_
  rintro e w1 ⟨rfl, rfl⟩
  go_wp2_with fail
  go_quiet (fail)
  go_wp2
  exact ⟨F, c, ⟨rfl, rfl, rfl, rfl, rfl, rfl, rfl, rfl, rfl, rfl, rfl, rfl⟩, (HS.out.drewN nq).more (by omega), HB.out.drewN nq⟩
set_option maxRecDepth 100000 in
set_option maxHeartbeats 3200000 in
theorem arm0_good (w0 : World) (v0 va : Value) (gL gA n k kk : Nat) (F : Nat → List Nat) (c : Nat → Nat) (x : ActD) (a : Act) (w : World)
    (h : PlayL1 a v0 va (.pointer (some ⟨w0.heap.size + 1, 0, none⟩)) (.int .i64 n) (.pointer (some ⟨gL, 0, none⟩)) (.pointer (some ⟨gL + 1, 0, none⟩)) (.int .i64 k) (.pointer (some ⟨gA, 0, none⟩)) (.bool true) (.int .i64 kk) (.bool true) (.int .i64 0) (.int .i64 x.what))
    (hs : St w0 gL n k F c w) (hk80 : k ≤ 1000) (hg : gL + 2 ≤ gA) (hb : Blk w gA 33 #[.int .i64 x.what, .int .i64 x.f, .int .i64 x.at_, .int .i64 x.n, x.v]) (hx : Bts w w0.heap.size x.v x.xs) (hi : I64 x.f ∧ I64 x.at_ ∧ I64 x.n)
    (s r : Nat) (hw : x.what = 0) (hf : x.f = kk) (hkk : kk < n) (hp : x.at_ = s) (hq : x.n = r) (hl : s + r ≤ 64) (hc : c kk = 0) :
    Runs Try.prog cSw a w (ArmP w0 v0 va gL gA n k kk true x) := by
  obtain ⟨u, rfl⟩ := h.open_
  obtain ⟨wh, f, p, q, v, xs⟩ := x
  obtain ⟨vA, vl, vc, rfl, hvl, hvm, -⟩ := id hx
  have hn := hs.2.1.few
  have HS := Lib.hid hs
  have HB := Lib.hid hb
  have HX := Lib.hid hx
  have HI := Lib.hid hi
  have HVL := Lib.hid hvl
  unfold maxLen at hvm
  clear hs hx h hi hvl
  obtain rfl : wh = 0 := hw
  obtain rfl : q = r := hq
  obtain rfl : f = kk := hf
  have g1 : (0 : Int) ≤ (kk : Int) := by omega
  have g2 : (kk : Int) < 1024 := by omega
  obtain rfl : p = s := hp
  have g3 : (0 : Int) ≤ (s : Int) := by omega
  have g4 : (s : Int) ≤ 64 := by omega
  have hc1 : w.cell? ⟨gA, 1, none⟩ = some (.int .i64 (kk : Int)) := by rw [hb.cell]; rfl
  have hc2 : w.cell? ⟨gA, 2, none⟩ = some (.int .i64 (s : Int)) := by rw [hb.cell]; rfl
  have hc3 : w.cell? ⟨gA, 3, none⟩ = some (.int .i64 (r : Int)) := by rw [hb.cell]; rfl
  have t1 : decide ((r : Int) < 0) = false := decide_eq_false (by omega)
  have t2 : decide ((64 : Int) - (s : Int) < (r : Int)) = false := decide_eq_false (by omega)
  have g5 : (0 : Int) ≤ (r : Int) := by omega
  have g6 : (s : Int) + (r : Int) ≤ 64 := by omega
  have hck : w.cell? ⟨gL + 1, kk, none⟩ = some (.int .i64 0) := by
    have := HS.out.2.2.2.1.cell (k := kk) (by omega)
    rw [hc] at this
    exact this
  have HP := Lib.hid (read_yes _ _ _ _ _ kk s r w HS.out.2.1 hkk hl (decide_eq_false (by omega)))
  have HG := Lib.hid HS.out.2.2.2.2.2
  obtain ⟨A, hsl, hA, hA2⟩ := slice_lh w gL (kk * 64) s r hl
  have HA := Lib.hid hA
  have HA2 := Lib.hid hA2
  clear hc hA hA2
  unfold Runs
  conv => arg 2; whnf
  go_wp2_with fail
  refine HP.out.mono ?_
  rintro e w1 ⟨rfl, hk1, hb1, hz1⟩
  have HS1 := Lib.hid (HS.out.below hb1)
  have HB1 := Lib.hid (HB.out.below hb1 HB.out.lt)
  have HWL := Lib.hid (win_length (F kk) s r (by rw [HS.out.2.2.1.long (by omega)]; exact hl))
  have HBY := Lib.hid (win_byte (F kk) s r (fun j hj => by
    have := HS.out.2.2.1.byte (f := kk) (by omega) _ (List.getElem_mem hj)
    simpa [hj] using this))
  have HX1 := Lib.hid (Bts.of_whole hk1 HWL.out (by unfold maxLen; omega) HBY.out)
  have HY1 := Lib.hid (HS1.out.2.2.1.bts (f := kk) (a := s) (k := r) (c := 64 - s) (B := w1.heap.size) (A := A) (by omega) hl (by omega) (by omega) HA.out HA2.out HS1.out.2.2.1.lt)
  have hd2 : w1.cell? ⟨gA, 2, none⟩ = some (.int .i64 (s : Int)) := by rw [HB1.out.cell]; rfl
  have hd3 : w1.cell? ⟨gA, 3, none⟩ = some (.int .i64 (r : Int)) := by rw [HB1.out.cell]; rfl
  have HSM := Lib.hid (fun m => show Calls Try.prog 13 #[.slice (some ⟨w.heap.size, 0, none⟩) r r, .slice A r (64 - s)] (w1.drewN m) fun e w'' => e = .returned (.bool true) ∧ ∃ j, w'' = w1.drewN j from
    (same_yes _ _ _ _ _ (w1.drewN m) (show Bts (w1.drewN m) _ _ _ from HX1.out) (show Bts (w1.drewN m) _ _ _ from HY1.out)).mono (fun e w'' h => by
      obtain ⟨he, i, hi⟩ := h
      exact ⟨he, m + i, hi.trans (World.drewN_drewN ..)⟩))
  clear hk1 hb1 hz1 hb hc1 hc2 hc3 hck
  go_wp2_with fail
  go_quiet ((go_at_call 13; exact HSM.out _))
  go_wp2
  exact ⟨F, c, ⟨rfl, rfl, rfl, rfl, rfl, rfl, rfl, rfl, rfl, rfl, rfl, rfl⟩, (HS1.out.drewN nq).more (by omega), HB1.out.drewN nq⟩
end Go.Proofs.Ytlodeejeeldplaa
