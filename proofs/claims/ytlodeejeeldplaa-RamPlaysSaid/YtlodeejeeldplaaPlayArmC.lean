/-
  A round's middle part in RamPlays: Copy.
  Conditions: none beside what the rounds keep.
-/
import Derived.Test.YtlodeejeeldplaaPlayArmB
import Derived.Test.YtlodeejeeldplaaCopies
import Derived.Deep.RegionHeld3
import Derived.Deep.DrawnRows
import Derived.Deep.QuietTactic
import Derived.BigQuiet
namespace Go.Proofs.Ytlodeejeeldplaa
open Go.RowKit
set_option linter.unusedVariables false

theorem St.drewN {w0 w : World} {gL n k : Nat} {F : Nat → List Nat} {c : Nat → Nat} (h : St w0 gL n k F c w) (m : Nat) : St w0 gL n k F c (w.drewN m) := by
  obtain ⟨h1, h2, h3, h4, h5, h6⟩ := h
  exact ⟨below_drewN h1 m, h2, h3, h4, h5, h6⟩
theorem Blk.drewN {w : World} {g : Nat} {t : TypeId} {cs : Array Value} (h : Blk w g t cs) (m : Nat) : Blk (w.drewN m) g t cs := h

set_option maxRecDepth 100000 in
set_option maxHeartbeats 3200000 in
theorem arm2_no1 (w0 : World) (v0 va : Value) (gL gA n k kk : Nat) (F : Nat → List Nat) (c : Nat → Nat) (x : ActD) (a : Act) (w : World) (inn : Bool)
    (h : PlayL1 a v0 va (.pointer (some ⟨w0.heap.size + 1, 0, none⟩)) (.int .i64 n) (.pointer (some ⟨gL, 0, none⟩)) (.pointer (some ⟨gL + 1, 0, none⟩)) (.int .i64 k) (.pointer (some ⟨gA, 0, none⟩)) (.bool false) (.int .i64 kk) (.bool inn) (.int .i64 0) (.int .i64 x.what))
    (hs : St w0 gL n k F c w) (hk80 : k ≤ 1000) (hg : gL + 2 ≤ gA) (hb : Blk w gA 33 #[.int .i64 x.what, .int .i64 x.f, .int .i64 x.at_, .int .i64 x.n, x.v]) (hx : Bts w w0.heap.size x.v x.xs) (hi : I64 x.f ∧ I64 x.at_ ∧ I64 x.n)
    (hw : x.what = 2) (hf : x.f < 0 ∨ (n : Int) ≤ x.f) :
    Runs Try.prog cSw a w (ArmP w0 v0 va gL gA n k kk false x) := by
  obtain ⟨u, rfl⟩ := h.open_
  obtain ⟨wh, f, p, q, v, xs⟩ := x
  obtain ⟨vA, vl, vc, rfl, hvl, hvm, -⟩ := id hx
  have hn := hs.2.1.few
  have HS := Lib.hid hs
  have HB := Lib.hid hb
  have HX := Lib.hid hx
  have HI := Lib.hid hi
  have HVL := Lib.hid hvl
  unfold maxLen at hvm
  clear hs hx h hi hvl
  obtain rfl : wh = 2 := hw
  have hc1 : w.cell? ⟨gA, 1, none⟩ = some (.int .i64 f) := by rw [hb.cell]; rfl
  have hc3 : w.cell? ⟨gA, 3, none⟩ = some (.int .i64 q) := by rw [hb.cell]; rfl
  have HP := Lib.hid (copy_none1 _ f q w (has_no _ _ _ _ _ f w HS.out.2.1 hf))
  clear hb hf
  unfold Runs
  conv => arg 2; whnf
  go_wp2_with fail
  refine HP.out.mono ?_
  rintro e w1 ⟨rfl, rfl⟩
  go_wp2
  exact ⟨F, c, ⟨rfl, rfl, rfl, rfl, rfl, rfl, rfl, rfl, rfl, rfl, rfl, rfl⟩, HS.out.more (by omega), HB.out⟩
set_option maxRecDepth 100000 in
set_option maxHeartbeats 3200000 in
theorem arm2_no2 (w0 : World) (v0 va : Value) (gL gA n k kk : Nat) (F : Nat → List Nat) (c : Nat → Nat) (x : ActD) (a : Act) (w : World) (inn : Bool)
    (h : PlayL1 a v0 va (.pointer (some ⟨w0.heap.size + 1, 0, none⟩)) (.int .i64 n) (.pointer (some ⟨gL, 0, none⟩)) (.pointer (some ⟨gL + 1, 0, none⟩)) (.int .i64 k) (.pointer (some ⟨gA, 0, none⟩)) (.bool true) (.int .i64 kk) (.bool inn) (.int .i64 0) (.int .i64 x.what))
    (hs : St w0 gL n k F c w) (hk80 : k ≤ 1000) (hg : gL + 2 ≤ gA) (hb : Blk w gA 33 #[.int .i64 x.what, .int .i64 x.f, .int .i64 x.at_, .int .i64 x.n, x.v]) (hx : Bts w w0.heap.size x.v x.xs) (hi : I64 x.f ∧ I64 x.at_ ∧ I64 x.n)
    (hw : x.what = 2) (hf : x.f = kk) (hkk : kk < n) (hq : x.n < 0 ∨ (n : Int) ≤ x.n) :
    Runs Try.prog cSw a w (ArmP w0 v0 va gL gA n k kk true x) := by
  obtain ⟨u, rfl⟩ := h.open_
  obtain ⟨wh, f, p, q, v, xs⟩ := x
  obtain ⟨vA, vl, vc, rfl, hvl, hvm, -⟩ := id hx
  have hn := hs.2.1.few
  have HS := Lib.hid hs
  have HB := Lib.hid hb
  have HX := Lib.hid hx
  have HI := Lib.hid hi
  have HVL := Lib.hid hvl
  unfold maxLen at hvm
  clear hs hx h hi hvl
  obtain rfl : wh = 2 := hw
  obtain rfl : f = kk := hf
  have g1 : (0 : Int) ≤ (kk : Int) := by omega
  have g2 : (kk : Int) < 1024 := by omega
  have hc1 : w.cell? ⟨gA, 1, none⟩ = some (.int .i64 (kk : Int)) := by rw [hb.cell]; rfl
  have hc3 : w.cell? ⟨gA, 3, none⟩ = some (.int .i64 q) := by rw [hb.cell]; rfl
  have HP := Lib.hid (copy_none2 _ (kk : Int) q w (has_yes _ _ _ _ _ kk w HS.out.2.1 hkk) (has_no _ _ _ _ _ q w HS.out.2.1 hq))
  clear hb
  simp only at hq
  by_cases hq0 : q < 0
  · have t1 : decide (q < 0) = true := decide_eq_true hq0
    clear hq
    unfold Runs
    conv => arg 2; whnf
    go_wp2_with fail
    refine HP.out.mono ?_
    rintro e w1 ⟨rfl, rfl⟩
    go_wp2
    exact ⟨F, c, ⟨rfl, rfl, rfl, rfl, rfl, rfl, rfl, rfl, rfl, rfl, rfl, rfl⟩, HS.out.more (by omega), HB.out⟩
  · have t1 : decide (q < 0) = false := decide_eq_false hq0
    have t2 : decide ((n : Int) ≤ q) = true := decide_eq_true (by omega)
    clear hq
    unfold Runs
    conv => arg 2; whnf
    go_wp2_with fail
    refine HP.out.mono ?_
    rintro e w1 ⟨rfl, rfl⟩
    go_wp2
    exact ⟨F, c, ⟨rfl, rfl, rfl, rfl, rfl, rfl, rfl, rfl, rfl, rfl, rfl, rfl⟩, HS.out.more (by omega), HB.out⟩
set_option maxRecDepth 100000 in
set_option maxHeartbeats 3200000 in
theorem arm2_bad (w0 : World) (v0 va : Value) (gL gA n k kk : Nat) (F : Nat → List Nat) (c : Nat → Nat) (x : ActD) (a : Act) (w : World) (inn : Bool)
    (h : PlayL1 a v0 va (.pointer (some ⟨w0.heap.size + 1, 0, none⟩)) (.int .i64 n) (.pointer (some ⟨gL, 0, none⟩)) (.pointer (some ⟨gL + 1, 0, none⟩)) (.int .i64 k) (.pointer (some ⟨gA, 0, none⟩)) (.bool true) (.int .i64 kk) (.bool inn) (.int .i64 0) (.int .i64 x.what))
    (hs : St w0 gL n k F c w) (hk80 : k ≤ 1000) (hg : gL + 2 ≤ gA) (hb : Blk w gA 33 #[.int .i64 x.what, .int .i64 x.f, .int .i64 x.at_, .int .i64 x.n, x.v]) (hx : Bts w w0.heap.size x.v x.xs) (hi : I64 x.f ∧ I64 x.at_ ∧ I64 x.n)
    (t : Nat) (hw : x.what = 2) (hf : x.f = kk) (hkk : kk < n) (hq : x.n = t) (ht : t < n) (hc : 0 < c kk ∨ 0 < c t) :
    Runs Try.prog cSw a w (ArmP w0 v0 va gL gA n k kk true x) := by
  obtain ⟨u, rfl⟩ := h.open_
  obtain ⟨wh, f, p, q, v, xs⟩ := x
  obtain ⟨vA, vl, vc, rfl, hvl, hvm, -⟩ := id hx
  have hn := hs.2.1.few
  have HS := Lib.hid hs
  have HB := Lib.hid hb
  have HX := Lib.hid hx
  have HI := Lib.hid hi
  have HVL := Lib.hid hvl
  unfold maxLen at hvm
  clear hs hx h hi hvl
  obtain rfl : wh = 2 := hw
  obtain rfl : f = kk := hf
  have g1 : (0 : Int) ≤ (kk : Int) := by omega
  have g2 : (kk : Int) < 1024 := by omega
  obtain rfl : q = t := hq
  have g3 : (0 : Int) ≤ (t : Int) := by omega
  have g4 : (t : Int) < 1024 := by omega
  have t1 : decide ((t : Int) < 0) = false := decide_eq_false (by omega)
  have t2 : decide ((n : Int) ≤ (t : Int)) = false := decide_eq_false (by omega)
  have hc1 : w.cell? ⟨gA, 1, none⟩ = some (.int .i64 (kk : Int)) := by rw [hb.cell]; rfl
  have hc3 : w.cell? ⟨gA, 3, none⟩ = some (.int .i64 (t : Int)) := by rw [hb.cell]; rfl
  have hck := HS.out.2.2.2.1.cell (k := kk) (by omega)
  have hct := HS.out.2.2.2.1.cell (k := t) (by omega)
  have hle := HS.out.2.2.2.2.1 kk
  have hle2 := HS.out.2.2.2.2.1 t
  have HP := Lib.hid (fun m => copy_bad _ _ _ _ _ kk t (w.drewN m) (show Mem (w.drewN m) _ _ _ _ _ from HS.out.2.1) hkk ht (hc.imp (fun h => decide_eq_true h) (fun h => decide_eq_true h)))
  obtain ⟨y, hy⟩ : ∃ y, y = c kk := ⟨_, rfl⟩
  obtain ⟨z, hz⟩ : ∃ z, z = c t := ⟨_, rfl⟩
  rw [← hy] at hck hc hle
  rw [← hz] at hct hc hle2
  have t5 : decide ((0 : Int) < (y : Int) + (z : Int)) = true := decide_eq_true (by omega)
  clear hb hy hz hc
  unfold Runs
  conv => arg 2; whnf
  go_wp2_with fail
  go_quiet (fail)
  go_wp2_with fail
  refine (HP.out nq).mono ?_
  rintro e w1 ⟨rfl, rfl⟩
  go_wp2
  exact ⟨F, c, ⟨rfl, rfl, rfl, rfl, rfl, rfl, rfl, rfl, rfl, rfl, rfl, rfl⟩, (HS.out.drewN nq).more (by omega), HB.out.drewN nq⟩
set_option maxRecDepth 100000 in
set_option maxHeartbeats 3200000 in
theorem arm2_good (w0 : World) (v0 va : Value) (gL gA n k kk : Nat) (F : Nat → List Nat) (c : Nat → Nat) (x : ActD) (a : Act) (w : World) (inn : Bool)
    (h : PlayL1 a v0 va (.pointer (some ⟨w0.heap.size + 1, 0, none⟩)) (.int .i64 n) (.pointer (some ⟨gL, 0, none⟩)) (.pointer (some ⟨gL + 1, 0, none⟩)) (.int .i64 k) (.pointer (some ⟨gA, 0, none⟩)) (.bool true) (.int .i64 kk) (.bool inn) (.int .i64 0) (.int .i64 x.what))
    (hs : St w0 gL n k F c w) (hk80 : k ≤ 1000) (hg : gL + 2 ≤ gA) (hb : Blk w gA 33 #[.int .i64 x.what, .int .i64 x.f, .int .i64 x.at_, .int .i64 x.n, x.v]) (hx : Bts w w0.heap.size x.v x.xs) (hi : I64 x.f ∧ I64 x.at_ ∧ I64 x.n)
    (t : Nat) (hw : x.what = 2) (hf : x.f = kk) (hkk : kk < n) (hq : x.n = t) (ht : t < n) (hc : c kk = 0) (hc2 : c t = 0) :
    Runs Try.prog cSw a w (ArmP w0 v0 va gL gA n k kk true x) := by
  obtain ⟨u, rfl⟩ := h.open_
  obtain ⟨wh, f, p, q, v, xs⟩ := x
  obtain ⟨vA, vl, vc, rfl, hvl, hvm, -⟩ := id hx
  have hn := hs.2.1.few
  have HS := Lib.hid hs
  have HB := Lib.hid hb
  have HX := Lib.hid hx
  have HI := Lib.hid hi
  have HVL := Lib.hid hvl
  unfold maxLen at hvm
  clear hs hx h hi hvl
  obtain rfl : wh = 2 := hw
  obtain rfl : f = kk := hf
  have g1 : (0 : Int) ≤ (kk : Int) := by omega
  have g2 : (kk : Int) < 1024 := by omega
  obtain rfl : q = t := hq
  have g3 : (0 : Int) ≤ (t : Int) := by omega
  have g4 : (t : Int) < 1024 := by omega
  have t1 : decide ((t : Int) < 0) = false := decide_eq_false (by omega)
  have t2 : decide ((n : Int) ≤ (t : Int)) = false := decide_eq_false (by omega)
  have hc1 : w.cell? ⟨gA, 1, none⟩ = some (.int .i64 (kk : Int)) := by rw [hb.cell]; rfl
  have hc3 : w.cell? ⟨gA, 3, none⟩ = some (.int .i64 (t : Int)) := by rw [hb.cell]; rfl
  have hck : w.cell? ⟨gL + 1, kk, none⟩ = some (.int .i64 0) := by
    have := HS.out.2.2.2.1.cell (k := kk) (by omega)
    rw [hc] at this
    exact this
  have hct : w.cell? ⟨gL + 1, t, none⟩ = some (.int .i64 0) := by
    have := HS.out.2.2.2.1.cell (k := t) (by omega)
    rw [hc2] at this
    exact this
  have HP := Lib.hid (fun m => copy_yes _ _ _ _ _ kk t (w.drewN m) (show Mem (w.drewN m) _ _ _ _ _ from HS.out.2.1) hkk ht (decide_eq_false (by omega)) (decide_eq_false (by omega)))
  have HG := Lib.hid HS.out.2.2.2.2.2
  clear hb hc hc2
  unfold Runs
  conv => arg 2; whnf
  go_wp2_with fail
  go_quiet (fail)
  go_wp2_with fail
  refine (HP.out nq).mono ?_
  rintro e w1 ⟨rfl, hm1, ho1⟩
  have HM1 := Lib.hid hm1
  have HO1 := Lib.hid ho1
  have HL1 := Lib.hid ((HS.out.drewN nq).2.2.1.only ho1 (by have := HG.out; omega))
  clear hm1 ho1
  have HLL := Lib.hid (HL1.out.long (f := kk) (by omega))
  have HLB := Lib.hid (HL1.out.byte (f := kk) (by omega))
  have HTH := Lib.hid (HL1.out.there_ (f := t) (by omega))
  have HRG := Lib.hid (HL1.out.range_ (f := kk) (by omega))
  have HO2 := Lib.hid (show Only gL w1 (w1.setCells gL (t * 64) ((F kk).map bv)) from Only.setCells _ _ (Only.refl _ _))
  have HLZ := Lib.hid (fun h : Lst w1 gL F => h.cells (f := t) (ys := F kk) (by omega) HLL.out HLB.out)
  have HI8 := Lib.hid (show (Try.prog.info? 28).map (·.size) = some ((F kk).map bv).length by rw [Try.size64, List.length_map, HLL.out])
  go_wp2_with (first
    | (refine wpList_load_mid rfl 28 (.tmp 203) rfl gL (kk * 64) rfl ((F kk).map bv) _ HRG.out Try.underlying28 rfl HI8.out ?_)
    | (refine wpList_store_mid rfl 28 (.tmp 205) (.tmp 204) rfl gL (t * 64) ((F kk).map bv).toArray rfl rfl (by rw [List.size_toArray, List.length_map, HLL.out]; exact HTH.out) (by rw [List.size_toArray]; exact HI8.out) (all_oneCell_toArray (map_bv_one (F kk))) ?_))
  refine ⟨upd F t (F kk), c, ⟨rfl, rfl, rfl, rfl, rfl, rfl, rfl, rfl, rfl, rfl, rfl, rfl⟩, arm_st (HS.out.drewN nq) HO1.out HM1.out HO2.out HLZ.out, HO2.out.blk (HO1.out.blk (HB.out.drewN nq) (by have := HG.out; omega)) (by omega)⟩
end Go.Proofs.Ytlodeejeeldplaa
