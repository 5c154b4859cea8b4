/-
  A round's middle part in RamPlays: Zero and Copy.
  Conditions: none beside what the rounds keep.
-/
import Derived.Test.YtlodeejeeldplaaPlayArmA
import Derived.Test.YtlodeejeeldplaaCopies
import Derived.Deep.RegionHeld3
import Derived.Deep.DrawnRows
import Derived.Deep.QuietTactic
import Derived.BigQuiet
namespace Go.Proofs.Ytlodeejeeldplaa
open Go.RowKit
set_option linter.unusedVariables false

set_option maxRecDepth 100000 in
set_option maxHeartbeats 3200000 in
theorem arm3_no (w0 : World) (v0 va : Value) (gL gA n k kk : Nat) (F : Nat → List Nat) (c : Nat → Nat) (x : ActD) (a : Act) (w : World) (inn : Bool)
    (h : PlayL1 a v0 va (.pointer (some ⟨w0.heap.size + 1, 0, none⟩)) (.int .i64 n) (.pointer (some ⟨gL, 0, none⟩)) (.pointer (some ⟨gL + 1, 0, none⟩)) (.int .i64 k) (.pointer (some ⟨gA, 0, none⟩)) (.bool false) (.int .i64 kk) (.bool inn) (.int .i64 0) (.int .i64 x.what))
    (hs : St w0 gL n k F c w) (hk80 : k ≤ 1000) (hg : gL + 2 ≤ gA) (hb : Blk w gA 33 #[.int .i64 x.what, .int .i64 x.f, .int .i64 x.at_, .int .i64 x.n, x.v]) (hx : Bts w w0.heap.size x.v x.xs) (hi : I64 x.f ∧ I64 x.at_ ∧ I64 x.n)
    (hw : x.what = 3) (hf : x.f < 0 ∨ (n : Int) ≤ x.f) :
    Runs Try.prog cSw a w (ArmP w0 v0 va gL gA n k kk false x) := by
  obtain ⟨u, rfl⟩ := h.open_
  obtain ⟨wh, f, p, q, v, xs⟩ := x
  obtain ⟨vA, vl, vc, rfl, hvl, hvm, -⟩ := id hx
  have hn := hs.2.1.few
  have HS := Lib.hid hs
  have HB := Lib.hid hb
  have HX := Lib.hid hx
  have HI := Lib.hid hi
  have HVL := Lib.hid hvl
  unfold maxLen at hvm
  clear hs hx h hi hvl
  obtain rfl : wh = 3 := hw
  have hc1 : w.cell? ⟨gA, 1, none⟩ = some (.int .i64 f) := by rw [hb.cell]; rfl
  have HP := Lib.hid (zero_err _ f 1 w (by omega) (piece_none _ _ _ _ _ f 0 64 w HS.out.2.1 hf))
  clear hb hf
  unfold Runs
  conv => arg 2; whnf
  go_wp2_with fail
  refine HP.out.mono ?_
  rintro e w1 ⟨rfl, rfl⟩
  go_wp2
  exact ⟨F, c, ⟨rfl, rfl, rfl, rfl, rfl, rfl, rfl, rfl, rfl, rfl, rfl, rfl⟩, HS.out.more (by omega), HB.out⟩
set_option maxRecDepth 100000 in
set_option maxHeartbeats 3200000 in
theorem arm3_bad (w0 : World) (v0 va : Value) (gL gA n k kk : Nat) (F : Nat → List Nat) (c : Nat → Nat) (x : ActD) (a : Act) (w : World) (inn : Bool)
    (h : PlayL1 a v0 va (.pointer (some ⟨w0.heap.size + 1, 0, none⟩)) (.int .i64 n) (.pointer (some ⟨gL, 0, none⟩)) (.pointer (some ⟨gL + 1, 0, none⟩)) (.int .i64 k) (.pointer (some ⟨gA, 0, none⟩)) (.bool true) (.int .i64 kk) (.bool inn) (.int .i64 0) (.int .i64 x.what))
    (hs : St w0 gL n k F c w) (hk80 : k ≤ 1000) (hg : gL + 2 ≤ gA) (hb : Blk w gA 33 #[.int .i64 x.what, .int .i64 x.f, .int .i64 x.at_, .int .i64 x.n, x.v]) (hx : Bts w w0.heap.size x.v x.xs) (hi : I64 x.f ∧ I64 x.at_ ∧ I64 x.n)
    (hw : x.what = 3) (hf : x.f = kk) (hkk : kk < n) (hc : 0 < c kk) :
    Runs Try.prog cSw a w (ArmP w0 v0 va gL gA n k kk true x) := by
  obtain ⟨u, rfl⟩ := h.open_
  obtain ⟨wh, f, p, q, v, xs⟩ := x
  obtain ⟨vA, vl, vc, rfl, hvl, hvm, -⟩ := id hx
  have hn := hs.2.1.few
  have HS := Lib.hid hs
  have HB := Lib.hid hb
  have HX := Lib.hid hx
  have HI := Lib.hid hi
  have HVL := Lib.hid hvl
  unfold maxLen at hvm
  clear hs hx h hi hvl
  obtain rfl : wh = 3 := hw
  obtain rfl : f = kk := hf
  have g1 : (0 : Int) ≤ (kk : Int) := by omega
  have g2 : (kk : Int) < 1024 := by omega
  have hc1 : w.cell? ⟨gA, 1, none⟩ = some (.int .i64 (kk : Int)) := by rw [hb.cell]; rfl
  have hck := HS.out.2.2.2.1.cell (k := kk) (by omega)
  have HP := Lib.hid (zero_err _ (kk : Int) 7 w (by omega) (piece_bad _ _ _ _ _ kk 0 64 w HS.out.2.1 hkk (by omega) (decide_eq_true hc)))
  obtain ⟨y, hy⟩ : ∃ y, y = c kk := ⟨_, rfl⟩
  rw [← hy] at hck hc
  have t1 : decide (0 < y) = true := decide_eq_true hc
  clear hb hy
  unfold Runs
  conv => arg 2; whnf
  go_wp2_with fail
  refine HP.out.mono ?_
  rintro e w1 ⟨rfl, rfl⟩
  go_wp2
  exact ⟨F, c, ⟨rfl, rfl, rfl, rfl, rfl, rfl, rfl, rfl, rfl, rfl, rfl, rfl⟩, HS.out.more (by omega), HB.out⟩
/-- A frame that is turned in the memory and in the list. -/
theorem arm_st {w0 w w1 w2 : World} {gL n k t : Nat} {F : Nat → List Nat} {c : Nat → Nat} {ys : List Nat} (hs : St w0 gL n k F c w) (ho : Only w0.heap.size w w1) (hm : Mem w1 (w0.heap.size + 1) w0.heap.size n (upd F t ys) (fun j => decide (0 < c j))) (ho2 : Only gL w1 w2) (hl2 : Lst w1 gL F → Lst w2 gL (upd F t ys)) :
    St w0 gL n (k + 1) (upd F t ys) c w2 := by
  obtain ⟨h1, h2, h3, h4, h5, h6⟩ := hs
  have hb1 := h1.trans (ho.below (Nat.le_refl _) h1.size)
  exact ⟨hb1.trans (ho2.below (by omega) hb1.size), hm.only ho2 (by omega) (by omega), hl2 (h3.only ho (by omega)), (h4.only ho (by omega)).only ho2 (by omega), fun j => Nat.le_succ_of_le (h5 j), h6⟩

set_option maxRecDepth 100000 in
set_option maxHeartbeats 3200000 in
theorem arm3_good (w0 : World) (v0 va : Value) (gL gA n k kk : Nat) (F : Nat → List Nat) (c : Nat → Nat) (x : ActD) (a : Act) (w : World) (inn : Bool)
    (h : PlayL1 a v0 va (.pointer (some ⟨w0.heap.size + 1, 0, none⟩)) (.int .i64 n) (.pointer (some ⟨gL, 0, none⟩)) (.pointer (some ⟨gL + 1, 0, none⟩)) (.int .i64 k) (.pointer (some ⟨gA, 0, none⟩)) (.bool true) (.int .i64 kk) (.bool inn) (.int .i64 0) (.int .i64 x.what))
    (hs : St w0 gL n k F c w) (hk80 : k ≤ 1000) (hg : gL + 2 ≤ gA) (hb : Blk w gA 33 #[.int .i64 x.what, .int .i64 x.f, .int .i64 x.at_, .int .i64 x.n, x.v]) (hx : Bts w w0.heap.size x.v x.xs) (hi : I64 x.f ∧ I64 x.at_ ∧ I64 x.n)
    (hw : x.what = 3) (hf : x.f = kk) (hkk : kk < n) (hc : c kk = 0) :
    Runs Try.prog cSw a w (ArmP w0 v0 va gL gA n k kk true x) := by
  obtain ⟨u, rfl⟩ := h.open_
  obtain ⟨wh, f, p, q, v, xs⟩ := x
  obtain ⟨vA, vl, vc, rfl, hvl, hvm, -⟩ := id hx
  have hn := hs.2.1.few
  have HS := Lib.hid hs
  have HB := Lib.hid hb
  have HX := Lib.hid hx
  have HI := Lib.hid hi
  have HVL := Lib.hid hvl
  unfold maxLen at hvm
  clear hs hx h hi hvl
  obtain rfl : wh = 3 := hw
  obtain rfl : f = kk := hf
  have g1 : (0 : Int) ≤ (kk : Int) := by omega
  have g2 : (kk : Int) < 1024 := by omega
  have hc1 : w.cell? ⟨gA, 1, none⟩ = some (.int .i64 (kk : Int)) := by rw [hb.cell]; rfl
  have hck : w.cell? ⟨gL + 1, kk, none⟩ = some (.int .i64 0) := by
    have := HS.out.2.2.2.1.cell (k := kk) (by omega)
    rw [hc] at this
    exact this
  have HP := Lib.hid (zero_yes _ _ _ _ _ kk w HS.out.2.1 hkk (decide_eq_false (by omega)))
  have HG := Lib.hid HS.out.2.2.2.2.2
  clear hc hb
  unfold Runs
  conv => arg 2; whnf
  go_wp2_with fail
  refine HP.out.mono ?_
  rintro e w1 ⟨rfl, hm1, ho1⟩
  have HM1 := Lib.hid hm1
  have HO1 := Lib.hid ho1
  have HL1 := Lib.hid (HS.out.2.2.1.only ho1 (by have := HG.out; omega))
  clear hm1 ho1
  have HTH := Lib.hid (HL1.out.there_ (f := kk) (by omega))
  have HO2 := Lib.hid (show Only gL w1 (w1.setCells gL (kk * 64) (zer.map bv)) from Only.setCells _ _ (Only.refl _ _))
  have HLZ := Lib.hid (fun h : Lst w1 gL F => h.cells (f := kk) (ys := zer) (by omega) zer_length zer_byte)
  go_wp2_with (refine wpList_store_mid rfl 28 (.tmp 224) (.tmp 223) rfl gL (kk * 64) (zer.map bv).toArray rfl rfl HTH.out Try.size64 (all_oneCell_toArray (map_bv_one zer)) ?_)
  refine ⟨upd F kk zer, c, ⟨rfl, rfl, rfl, rfl, rfl, rfl, rfl, rfl, rfl, rfl, rfl, rfl⟩, arm_st HS.out HO1.out HM1.out HO2.out HLZ.out, HO2.out.blk (HO1.out.blk HB.out (by have := HG.out; omega)) (by omega)⟩
end Go.Proofs.Ytlodeejeeldplaa
