/-
  A round's middle part in RamPlays: Write.
  Conditions: none beside what the rounds keep.
-/
import Derived.Test.YtlodeejeeldplaaPlayArmC
import Derived.Test.YtlodeejeeldplaaCopies
import Derived.Deep.RegionHeld3
import Derived.Deep.DrawnRows
import Derived.Deep.QuietTactic
import Derived.BigQuiet
namespace Go.Proofs.Ytlodeejeeldplaa
open Go.RowKit
set_option linter.unusedVariables false

theorem Blk.uniq {w : World} {g : Nat} {t : TypeId} {c1 c2 : Array Value} (h1 : Blk w g t c1) (h2 : Blk w g t c2) : c1 = c2 := by
  unfold Blk at h1 h2
  rw [h1] at h2
  injection h2 with h2
  injection h2 with h2
theorem slice_l (w : World) (g o a : Nat) (h : a ≤ 64) :
    ∃ A, (∀ W, (Instr.sliceAt 28 (.pointer (some ⟨g, o, none⟩)) (some (.int .i64 a)) none none).run Try.prog W = .ok (.slice A (64 - a) (64 - a)) W) ∧ A ≠ none ∧ (a < 64 → A = some ⟨g, o + a, none⟩) := by
  refine ⟨some (if 64 = a then ⟨g, o, none⟩ else (Addr.mk g o none).add (a * 1)), fun W => ?_, by simp, fun hn => ?_⟩
  · have hu : Try.prog.underlying 28 = some (.array 64 5) := Try.underlying28
    have hl : Try.prog.arrayLen 28 = 64 := by simp [Program.arrayLen, hu]
    have he : Try.prog.elem 28 = 5 := by simp [Program.elem, hu]
    rw [run_sliceAt_array_l W 28 ⟨g, o, none⟩ (by rw [hl, he]; exact hu) .i64 _ (by omega) (by rw [hl]; omega), he, hl]
    have hs := Try.size8
    cases hq : Try.prog.info? 5 with
    | none => simp [hq] at hs
    | some i =>
      have hi : i.size = 1 := by simpa [hq] using hs
      simp [sizeOf, typeInfo, hq, hi, slicedAt]
  · rw [if_neg (by omega), Nat.mul_one]
    congr 1
    unfold Addr.add
    split <;> simp_all
theorem slice_lh (w : World) (g o a n : Nat) (h : a + n ≤ 64) :
    ∃ A, (∀ W, (Instr.sliceAt 28 (.pointer (some ⟨g, o, none⟩)) (some (.int .i64 a)) (some (.int .i64 ((a : Int) + n))) none).run Try.prog W = .ok (.slice A n (64 - a)) W) ∧ A ≠ none ∧ (0 < n → A = some ⟨g, o + a, none⟩) := by
  refine ⟨some (if 64 = a then ⟨g, o, none⟩ else (Addr.mk g o none).add (a * 1)), fun W => ?_, by simp, fun hn => ?_⟩
  · have hu : Try.prog.underlying 28 = some (.array 64 5) := Try.underlying28
    have hl : Try.prog.arrayLen 28 = 64 := by simp [Program.arrayLen, hu]
    have he : Try.prog.elem 28 = 5 := by simp [Program.elem, hu]
    rw [run_sliceAt_array_lh W 28 ⟨g, o, none⟩ (by rw [hl, he]; exact hu) .i64 .i64 _ _ (by omega) (by omega) (by rw [hl]; omega), he, hl]
    have hs := Try.size8
    cases hq : Try.prog.info? 5 with
    | none => simp [hq] at hs
    | some i =>
      have hi : i.size = 1 := by simpa [hq] using hs
      have e1 : ((a : Int) + n).toNat = a + n := by omega
      simp [sizeOf, typeInfo, hq, hi, slicedAt, e1]
  · rw [if_neg (by omega), Nat.mul_one]
    congr 1
    unfold Addr.add
    split <;> simp_all

set_option maxRecDepth 100000 in
set_option maxHeartbeats 3200000 in
theorem arm1_no (w0 : World) (v0 va : Value) (gL gA n k kk : Nat) (F : Nat → List Nat) (c : Nat → Nat) (x : ActD) (a : Act) (w : World)
    (h : PlayL1 a v0 va (.pointer (some ⟨w0.heap.size + 1, 0, none⟩)) (.int .i64 n) (.pointer (some ⟨gL, 0, none⟩)) (.pointer (some ⟨gL + 1, 0, none⟩)) (.int .i64 k) (.pointer (some ⟨gA, 0, none⟩)) (.bool false) (.int .i64 kk) (.bool false) (.int .i64 0) (.int .i64 x.what))
    (hs : St w0 gL n k F c w) (hk80 : k ≤ 1000) (hg : gL + 2 ≤ gA) (hb : Blk w gA 33 #[.int .i64 x.what, .int .i64 x.f, .int .i64 x.at_, .int .i64 x.n, x.v]) (hx : Bts w w0.heap.size x.v x.xs) (hi : I64 x.f ∧ I64 x.at_ ∧ I64 x.n)
    (hw : x.what = 1) (hf : x.f < 0 ∨ (n : Int) ≤ x.f) :
    Runs Try.prog cSw a w (ArmP w0 v0 va gL gA n k kk false x) := by
  obtain ⟨u, rfl⟩ := h.open_
  obtain ⟨wh, f, p, q, v, xs⟩ := x
  obtain ⟨vA, vl, vc, rfl, hvl, hvm, -⟩ := id hx
  have hn := hs.2.1.few
  have HS := Lib.hid hs
  have HB := Lib.hid hb
  have HX := Lib.hid hx
  have HI := Lib.hid hi
  have HVL := Lib.hid hvl
  unfold maxLen at hvm
  clear hs hx h hi hvl
  obtain rfl : wh = 1 := hw
  have hc1 : w.cell? ⟨gA, 1, none⟩ = some (.int .i64 f) := by rw [hb.cell]; rfl
  have hc2 : w.cell? ⟨gA, 2, none⟩ = some (.int .i64 p) := by rw [hb.cell]; rfl
  have hc4 : w.cell? ⟨gA, 4, none⟩ = some (.slice vA vl vc) := by rw [hb.cell]; rfl
  have HP := Lib.hid (write_err _ vA vl vc f p 1 w (by omega) (piece_none _ _ _ _ _ f p vl w HS.out.2.1 hf))
  clear hb hf
  unfold Runs
  conv => arg 2; whnf
  go_wp2_with fail
  refine HP.out.mono ?_
  rintro e w1 ⟨rfl, rfl⟩
  go_wp2
  exact ⟨F, c, ⟨rfl, rfl, rfl, rfl, rfl, rfl, rfl, rfl, rfl, rfl, rfl, rfl⟩, HS.out.more (by omega), HB.out⟩
set_option maxRecDepth 100000 in
set_option maxHeartbeats 3200000 in
theorem arm1_out (w0 : World) (v0 va : Value) (gL gA n k kk : Nat) (F : Nat → List Nat) (c : Nat → Nat) (x : ActD) (a : Act) (w : World)
    (h : PlayL1 a v0 va (.pointer (some ⟨w0.heap.size + 1, 0, none⟩)) (.int .i64 n) (.pointer (some ⟨gL, 0, none⟩)) (.pointer (some ⟨gL + 1, 0, none⟩)) (.int .i64 k) (.pointer (some ⟨gA, 0, none⟩)) (.bool true) (.int .i64 kk) (.bool false) (.int .i64 0) (.int .i64 x.what))
    (hs : St w0 gL n k F c w) (hk80 : k ≤ 1000) (hg : gL + 2 ≤ gA) (hb : Blk w gA 33 #[.int .i64 x.what, .int .i64 x.f, .int .i64 x.at_, .int .i64 x.n, x.v]) (hx : Bts w w0.heap.size x.v x.xs) (hi : I64 x.f ∧ I64 x.at_ ∧ I64 x.n)
    (hw : x.what = 1) (hf : x.f = kk) (hkk : kk < n) (hp : x.at_ < 0 ∨ 64 < x.at_) :
    Runs Try.prog cSw a w (ArmP w0 v0 va gL gA n k kk true x) := by
  obtain ⟨u, rfl⟩ := h.open_
  obtain ⟨wh, f, p, q, v, xs⟩ := x
  obtain ⟨vA, vl, vc, rfl, hvl, hvm, -⟩ := id hx
  have hn := hs.2.1.few
  have HS := Lib.hid hs
  have HB := Lib.hid hb
  have HX := Lib.hid hx
  have HI := Lib.hid hi
  have HVL := Lib.hid hvl
  unfold maxLen at hvm
  clear hs hx h hi hvl
  obtain rfl : wh = 1 := hw
  obtain rfl : f = kk := hf
  have g1 : (0 : Int) ≤ (kk : Int) := by omega
  have g2 : (kk : Int) < 1024 := by omega
  have hc1 : w.cell? ⟨gA, 1, none⟩ = some (.int .i64 (kk : Int)) := by rw [hb.cell]; rfl
  have hc2 : w.cell? ⟨gA, 2, none⟩ = some (.int .i64 p) := by rw [hb.cell]; rfl
  have hc4 : w.cell? ⟨gA, 4, none⟩ = some (.slice vA vl vc) := by rw [hb.cell]; rfl
  simp only at hp
  have HP := Lib.hid (write_err _ vA vl vc (kk : Int) p 1 w (by omega) (piece_out _ _ _ _ _ kk p vl w HS.out.2.1 hkk (by unfold Out64; omega) (by omega)))
  clear hb hp
  unfold Runs
  conv => arg 2; whnf
  go_wp2_with fail
  refine HP.out.mono ?_
  rintro e w1 ⟨rfl, rfl⟩
  go_wp2
  exact ⟨F, c, ⟨rfl, rfl, rfl, rfl, rfl, rfl, rfl, rfl, rfl, rfl, rfl, rfl⟩, HS.out.more (by omega), HB.out⟩
set_option maxRecDepth 100000 in
set_option maxHeartbeats 3200000 in
theorem arm1_long (w0 : World) (v0 va : Value) (gL gA n k kk : Nat) (F : Nat → List Nat) (c : Nat → Nat) (x : ActD) (a : Act) (w : World)
    (h : PlayL1 a v0 va (.pointer (some ⟨w0.heap.size + 1, 0, none⟩)) (.int .i64 n) (.pointer (some ⟨gL, 0, none⟩)) (.pointer (some ⟨gL + 1, 0, none⟩)) (.int .i64 k) (.pointer (some ⟨gA, 0, none⟩)) (.bool true) (.int .i64 kk) (.bool true) (.int .i64 0) (.int .i64 x.what))
    (hs : St w0 gL n k F c w) (hk80 : k ≤ 1000) (hg : gL + 2 ≤ gA) (hb : Blk w gA 33 #[.int .i64 x.what, .int .i64 x.f, .int .i64 x.at_, .int .i64 x.n, x.v]) (hx : Bts w w0.heap.size x.v x.xs) (hi : I64 x.f ∧ I64 x.at_ ∧ I64 x.n)
    (s : Nat) (hw : x.what = 1) (hf : x.f = kk) (hkk : kk < n) (hp : x.at_ = s) (hs64 : s ≤ 64) (hl : 64 < s + x.xs.length) :
    Runs Try.prog cSw a w (ArmP w0 v0 va gL gA n k kk true x) := by
  obtain ⟨u, rfl⟩ := h.open_
  obtain ⟨wh, f, p, q, v, xs⟩ := x
  obtain ⟨vA, vl, vc, rfl, hvl, hvm, -⟩ := id hx
  have hn := hs.2.1.few
  have HS := Lib.hid hs
  have HB := Lib.hid hb
  have HX := Lib.hid hx
  have HI := Lib.hid hi
  have HVL := Lib.hid hvl
  unfold maxLen at hvm
  clear hs hx h hi hvl
  obtain rfl : wh = 1 := hw
  simp only at hl
  obtain rfl : f = kk := hf
  have g1 : (0 : Int) ≤ (kk : Int) := by omega
  have g2 : (kk : Int) < 1024 := by omega
  obtain rfl : p = s := hp
  have g3 : (0 : Int) ≤ (s : Int) := by omega
  have g4 : (s : Int) ≤ 64 := by omega
  have g5 : xs.length = vl := HVL.out
  have hc1 : w.cell? ⟨gA, 1, none⟩ = some (.int .i64 (kk : Int)) := by rw [hb.cell]; rfl
  have hc2 : w.cell? ⟨gA, 2, none⟩ = some (.int .i64 (s : Int)) := by rw [hb.cell]; rfl
  have hc4 : w.cell? ⟨gA, 4, none⟩ = some (.slice vA vl vc) := by rw [hb.cell]; rfl
  rw [g5] at hl
  have t1 : decide ((64 : Int) - (s : Int) < (vl : Int)) = true := decide_eq_true (by omega)
  have HP := Lib.hid (write_err _ vA vl vc (kk : Int) (s : Int) 1 w (by omega) (piece_out _ _ _ _ _ kk s vl w HS.out.2.1 hkk (by unfold Out64; omega) (by omega)))
  clear hb hl g5
  unfold Runs
  conv => arg 2; whnf
  go_wp2_with fail
  refine HP.out.mono ?_
  rintro e w1 ⟨rfl, rfl⟩
  go_wp2
  exact ⟨F, c, ⟨rfl, rfl, rfl, rfl, rfl, rfl, rfl, rfl, rfl, rfl, rfl, rfl⟩, HS.out.more (by omega), HB.out⟩
set_option maxRecDepth 100000 in
set_option maxHeartbeats 3200000 in
theorem arm1_bad (w0 : World) (v0 va : Value) (gL gA n k kk : Nat) (F : Nat → List Nat) (c : Nat → Nat) (x : ActD) (a : Act) (w : World)
    (h : PlayL1 a v0 va (.pointer (some ⟨w0.heap.size + 1, 0, none⟩)) (.int .i64 n) (.pointer (some ⟨gL, 0, none⟩)) (.pointer (some ⟨gL + 1, 0, none⟩)) (.int .i64 k) (.pointer (some ⟨gA, 0, none⟩)) (.bool true) (.int .i64 kk) (.bool true) (.int .i64 0) (.int .i64 x.what))
    (hs : St w0 gL n k F c w) (hk80 : k ≤ 1000) (hg : gL + 2 ≤ gA) (hb : Blk w gA 33 #[.int .i64 x.what, .int .i64 x.f, .int .i64 x.at_, .int .i64 x.n, x.v]) (hx : Bts w w0.heap.size x.v x.xs) (hi : I64 x.f ∧ I64 x.at_ ∧ I64 x.n)
    (s : Nat) (hw : x.what = 1) (hf : x.f = kk) (hkk : kk < n) (hp : x.at_ = s) (hl : s + x.xs.length ≤ 64) (hc : 0 < c kk) :
    Runs Try.prog cSw a w (ArmP w0 v0 va gL gA n k kk true x) := by
  obtain ⟨u, rfl⟩ := h.open_
  obtain ⟨wh, f, p, q, v, xs⟩ := x
  obtain ⟨vA, vl, vc, rfl, hvl, hvm, -⟩ := id hx
  have hn := hs.2.1.few
  have HS := Lib.hid hs
  have HB := Lib.hid hb
  have HX := Lib.hid hx
  have HI := Lib.hid hi
  have HVL := Lib.hid hvl
  unfold maxLen at hvm
  clear hs hx h hi hvl
  obtain rfl : wh = 1 := hw
  simp only at hl
  obtain rfl : f = kk := hf
  have g1 : (0 : Int) ≤ (kk : Int) := by omega
  have g2 : (kk : Int) < 1024 := by omega
  obtain rfl : p = s := hp
  have g3 : (0 : Int) ≤ (s : Int) := by omega
  have g4 : (s : Int) ≤ 64 := by omega
  have g5 : xs.length = vl := HVL.out
  have hc1 : w.cell? ⟨gA, 1, none⟩ = some (.int .i64 (kk : Int)) := by rw [hb.cell]; rfl
  have hc2 : w.cell? ⟨gA, 2, none⟩ = some (.int .i64 (s : Int)) := by rw [hb.cell]; rfl
  have hc4 : w.cell? ⟨gA, 4, none⟩ = some (.slice vA vl vc) := by rw [hb.cell]; rfl
  rw [g5] at hl
  have t1 : decide ((64 : Int) - (s : Int) < (vl : Int)) = false := decide_eq_false (by omega)
  have hck := HS.out.2.2.2.1.cell (k := kk) (by omega)
  have HP := Lib.hid (write_err _ vA vl vc (kk : Int) (s : Int) 7 w (by omega) (piece_bad _ _ _ _ _ kk s vl w HS.out.2.1 hkk (by omega) (decide_eq_true hc)))
  obtain ⟨y, hy⟩ : ∃ y, y = c kk := ⟨_, rfl⟩
  rw [← hy] at hck hc
  have t2 : decide (0 < y) = true := decide_eq_true hc
  clear hb hy g5
  unfold Runs
  conv => arg 2; whnf
  go_wp2_with fail
  refine HP.out.mono ?_
  rintro e w1 ⟨rfl, rfl⟩
  go_wp2
  exact ⟨F, c, ⟨rfl, rfl, rfl, rfl, rfl, rfl, rfl, rfl, rfl, rfl, rfl, rfl⟩, HS.out.more (by omega), HB.out⟩
set_option maxRecDepth 100000 in
set_option maxHeartbeats 3200000 in
theorem arm1_good (w0 : World) (v0 va : Value) (gL gA n k kk : Nat) (F : Nat → List Nat) (c : Nat → Nat) (x : ActD) (a : Act) (w : World)
    (h : PlayL1 a v0 va (.pointer (some ⟨w0.heap.size + 1, 0, none⟩)) (.int .i64 n) (.pointer (some ⟨gL, 0, none⟩)) (.pointer (some ⟨gL + 1, 0, none⟩)) (.int .i64 k) (.pointer (some ⟨gA, 0, none⟩)) (.bool true) (.int .i64 kk) (.bool true) (.int .i64 0) (.int .i64 x.what))
    (hs : St w0 gL n k F c w) (hk80 : k ≤ 1000) (hg : gL + 2 ≤ gA) (hb : Blk w gA 33 #[.int .i64 x.what, .int .i64 x.f, .int .i64 x.at_, .int .i64 x.n, x.v]) (hx : Bts w w0.heap.size x.v x.xs) (hi : I64 x.f ∧ I64 x.at_ ∧ I64 x.n)
    (s : Nat) (hw : x.what = 1) (hf : x.f = kk) (hkk : kk < n) (hp : x.at_ = s) (hl : s + x.xs.length ≤ 64) (hc : c kk = 0) :
    Runs Try.prog cSw a w (ArmP w0 v0 va gL gA n k kk true x) := by
  obtain ⟨u, rfl⟩ := h.open_
  obtain ⟨wh, f, p, q, v, xs⟩ := x
  obtain ⟨vA, vl, vc, rfl, hvl, hvm, -⟩ := id hx
  have hn := hs.2.1.few
  have HS := Lib.hid hs
  have HB := Lib.hid hb
  have HX := Lib.hid hx
  have HI := Lib.hid hi
  have HVL := Lib.hid hvl
  unfold maxLen at hvm
  clear hs hx h hi hvl
  obtain rfl : wh = 1 := hw
  simp only at hl
  obtain rfl : f = kk := hf
  have g1 : (0 : Int) ≤ (kk : Int) := by omega
  have g2 : (kk : Int) < 1024 := by omega
  obtain rfl : p = s := hp
  have g3 : (0 : Int) ≤ (s : Int) := by omega
  have g4 : (s : Int) ≤ 64 := by omega
  have g5 : xs.length = vl := HVL.out
  have hc1 : w.cell? ⟨gA, 1, none⟩ = some (.int .i64 (kk : Int)) := by rw [hb.cell]; rfl
  have hc2 : w.cell? ⟨gA, 2, none⟩ = some (.int .i64 (s : Int)) := by rw [hb.cell]; rfl
  have hc4 : w.cell? ⟨gA, 4, none⟩ = some (.slice vA vl vc) := by rw [hb.cell]; rfl
  have hck : w.cell? ⟨gL + 1, kk, none⟩ = some (.int .i64 0) := by
    have := HS.out.2.2.2.1.cell (k := kk) (by omega)
    rw [hc] at this
    exact this
  have HP := Lib.hid (write_yes _ _ _ _ _ kk s _ _ xs w HS.out.2.1 hkk hl (decide_eq_false (by omega)) HX.out)
  have HG := Lib.hid HS.out.2.2.2.2.2
  rw [g5] at hl
  have t1 : decide ((64 : Int) - (s : Int) < (vl : Int)) = false := decide_eq_false (by omega)
  obtain ⟨A, hsl, hA, hA2⟩ := slice_l w gL (kk * 64) s (by omega)
  have HA := Lib.hid hA
  have HA2 := Lib.hid hA2
  clear hc g5 hA hA2
  unfold Runs
  conv => arg 2; whnf
  go_wp2_with fail
  refine HP.out.mono ?_
  rintro e w1 ⟨rfl, hm1, ho1⟩
  have HM1 := Lib.hid hm1
  have HO1 := Lib.hid ho1
  have HL1 := Lib.hid (HS.out.2.2.1.only ho1 (by have := HG.out; omega))
  have HX1 := Lib.hid (HX.out.below (ho1.below (Nat.le_refl _) HS.out.1.size))
  have HB1 := Lib.hid (ho1.blk HB.out (by have := HG.out; omega))
  have hd2 : w1.cell? ⟨gA, 2, none⟩ = some (.int .i64 (s : Int)) := by rw [HB1.out.cell]; rfl
  have hd4 : w1.cell? ⟨gA, 4, none⟩ = some (.slice vA vl vc) := by rw [HB1.out.cell]; rfl
  clear hm1 ho1 hb hc1 hc2 hc4 hck
  obtain ⟨cur, hcur, hsz⟩ : ∃ cur, Blk w1 gL 29 cur ∧ cur.size = 65536 := by
    obtain ⟨cur, h1, h2, _⟩ := HL1.out
    exact ⟨cur, h1, h2⟩
  have HCUR := Lib.hid hcur
  have HSZ := Lib.hid hsz
  clear hcur hsz
  go_wp2_with fail
  go_region_held3 (fun w' => w'.cell? ⟨gA, 2, none⟩ = some (.int .i64 (s : Int)) ∧ w'.cell? ⟨gA, 4, none⟩ = some (.slice vA vl vc)) (first | go_keep | (refine ⟨?_, ?_⟩ <;> (rw [(HO2.out.blk (k := gA) (show Blk _ _ _ _ from HB1.out) (by omega)).cell]; rfl)))
    ((refine step_copy_bts (by rfl) (.tmp 165) (.tmp 167) 31 31 (by rfl) 5 Try.underlying31 Try.size8 _ _ _ _ _ _ (by rfl) (by rfl) gL (kk * 64 + s) cur 29 HCUR.out xs _ HX1.out (by rw [HVL.out]; omega) (fun h0 => HA2.out (by rw [HVL.out] at h0; omega)) (by rw [HVL.out, HSZ.out]; omega) ?_; intro w2 HB2 HO2))
  go_wp2_with fail
  have HO3 := Lib.hid ((Only.refl gL w1).drew.trans HO2.out)
  refine ⟨upd F kk (over (F kk) s xs), c, ⟨rfl, rfl, rfl, rfl, rfl, rfl, rfl, rfl, rfl, rfl, rfl, rfl⟩, arm_st HS.out HO1.out HM1.out HO3.out (fun hl1 => hl1.bytes (by omega) (by rw [HVL.out]; exact hl) HX.out.byte (fun cur2 h2 hs2 => ?_)), HO3.out.blk HB1.out (by omega)⟩
  obtain rfl := Blk.uniq h2 HCUR.out
  exact ⟨_, HB2.out, Over.splice_ (by simpa using hs2)⟩
end Go.Proofs.Ytlodeejeeldplaa
