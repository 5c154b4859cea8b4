/-
  A round's middle part in RamPlays: no act, Poison and Zero.
  Conditions: none beside what the rounds keep.
-/
import Derived.Test.YtlodeejeeldplaaPlayTail
import Derived.Test.YtlodeejeeldplaaCopies
import Derived.Deep.RegionHeld3
import Derived.Deep.DrawnRows
import Derived.Deep.QuietTactic
import Derived.BigQuiet
namespace Go.Proofs.Ytlodeejeeldplaa
open Go.RowKit
set_option linter.unusedVariables false

/-- What a round's middle part leaves. -/
def ArmP (w0 : World) (v0 va : Value) (gL gA n k kk : Nat) (th : Bool) (x : ActD) (a' : Act) (w' : World) : Prop :=
  ∃ F' c', PlayL2 a' v0 va (.pointer (some ⟨w0.heap.size + 1, 0, none⟩)) (.int .i64 n) (.pointer (some ⟨gL, 0, none⟩)) (.pointer (some ⟨gL + 1, 0, none⟩)) (.int .i64 k) (.pointer (some ⟨gA, 0, none⟩)) (.bool th) (.int .i64 kk) ∧
    St w0 gL n (k + 1) F' c' w' ∧ Blk w' gA 33 #[.int .i64 x.what, .int .i64 x.f, .int .i64 x.at_, .int .i64 x.n, x.v]

theorem Blk.far_ {w : World} {g : Nat} {t : TypeId} {cs : Array Value} (h : Blk w g t cs) {p : Addr} (hp : g ≠ p.block) (u : Value) : Blk (w.setCell p u) g t cs := (Below.heap_setCell w p u g hp).trans h
/-- One more poisoning of a frame that is bad. -/
theorem arm4_st {w0 w : World} {gL n k kk : Nat} {F : Nat → List Nat} {c : Nat → Nat} {y : Nat} (hs : St w0 gL n k F c w) (hc : Cnt (w.setCell ⟨gL + 1, kk, none⟩ (.int .i64 ((y : Int) + 1))) (gL + 1) (upd c kk (y + 1))) (hy : y = c kk) (h0 : True → 0 < c kk) (hk : c kk ≤ k) :
    St w0 gL n (k + 1) F (upd c kk (y + 1)) (w.setCell ⟨gL + 1, kk, none⟩ (.int .i64 ((y : Int) + 1))) := by
  obtain ⟨h1, h2, h3, h4, h5, h6⟩ := hs
  have e : (fun j => decide (0 < upd c kk (y + 1) j)) = (fun j => decide (0 < c j)) := by
    funext j
    by_cases hj : j = kk
    · subst hj
      have := h0 trivial
      rw [upd_same, decide_eq_true (by omega), decide_eq_true (by omega)]
    · rw [upd_other _ _ _ hj]
  refine ⟨h1.setCell (by simp; omega) _, ?_, h3.far (Below.heap_setCell _ _ _ _ (by simp)), hc, fun j => ?_, h6⟩
  · rw [e]
    exact h2.far (Below.heap_setCell _ _ _ _ (by simp; omega)) (Below.heap_setCell _ _ _ _ (by simp; omega))
  · by_cases hj : j = kk
    · subst hj
      rw [upd_same]
      omega
    · rw [upd_other _ _ _ hj]
      have := h5 j
      omega
/-- The first poisoning of a frame. -/
theorem arm4_st1 {w0 w w1 : World} {gL n k kk : Nat} {F : Nat → List Nat} {c : Nat → Nat} (hs : St w0 gL n k F c w) (ho : Only w0.heap.size w w1) (hm : Mem w1 (w0.heap.size + 1) w0.heap.size n F (upd (fun j => decide (0 < c j)) kk true)) (hkk : kk < 1024) (hc0 : c kk = 0) :
    St w0 gL n (k + 1) F (upd c kk 1) (w1.setCell ⟨gL + 1, kk, none⟩ (.int .i64 1)) := by
  obtain ⟨h1, h2, h3, h4, h5, h6⟩ := hs
  have e : (fun j => decide (0 < upd c kk 1 j)) = upd (fun j => decide (0 < c j)) kk true := by
    funext j
    by_cases hj : j = kk
    · subst hj
      rw [upd_same, upd_same, decide_eq_true (by omega)]
    · rw [upd_other _ _ _ hj, upd_other _ _ _ hj]
  have hc1 := (h4.only ho (by omega)).set_ (k := kk) hkk 1
  refine ⟨(h1.trans (ho.below (Nat.le_refl _) h1.size)).setCell (by simp; omega) _, ?_, (h3.only ho (by omega)).far (Below.heap_setCell _ _ _ _ (by simp)), hc1, fun j => ?_, h6⟩
  · rw [e]
    exact hm.far (Below.heap_setCell _ _ _ _ (by simp; omega)) (Below.heap_setCell _ _ _ _ (by simp; omega))
  · by_cases hj : j = kk
    · subst hj
      rw [upd_same]
      omega
    · rw [upd_other _ _ _ hj]
      have := h5 j
      omega

set_option maxRecDepth 100000 in
set_option maxHeartbeats 3200000 in
theorem arm_other (w0 : World) (v0 va : Value) (gL gA n k kk : Nat) (F : Nat → List Nat) (c : Nat → Nat) (x : ActD) (a : Act) (w : World) (th inn : Bool)
    (h : PlayL1 a v0 va (.pointer (some ⟨w0.heap.size + 1, 0, none⟩)) (.int .i64 n) (.pointer (some ⟨gL, 0, none⟩)) (.pointer (some ⟨gL + 1, 0, none⟩)) (.int .i64 k) (.pointer (some ⟨gA, 0, none⟩)) (.bool th) (.int .i64 kk) (.bool inn) (.int .i64 0) (.int .i64 x.what))
    (hs : St w0 gL n k F c w) (hk80 : k ≤ 1000) (hg : gL + 2 ≤ gA) (hb : Blk w gA 33 #[.int .i64 x.what, .int .i64 x.f, .int .i64 x.at_, .int .i64 x.n, x.v]) (hx : Bts w w0.heap.size x.v x.xs) (hi : I64 x.f ∧ I64 x.at_ ∧ I64 x.n)
    (hw : x.what ≠ 0 ∧ x.what ≠ 1 ∧ x.what ≠ 2 ∧ x.what ≠ 3 ∧ x.what ≠ 4) :
    Runs Try.prog cSw a w (ArmP w0 v0 va gL gA n k kk th x) := by
  obtain ⟨u, rfl⟩ := h.open_
  obtain ⟨wh, f, p, q, v, xs⟩ := x
  obtain ⟨vA, vl, vc, rfl, hvl, hvm, -⟩ := id hx
  have hn := hs.2.1.few
  have HS := Lib.hid hs
  have HB := Lib.hid hb
  have HX := Lib.hid hx
  have HI := Lib.hid hi
  have HVL := Lib.hid hvl
  unfold maxLen at hvm
  clear hs hx h hi hvl
  obtain ⟨e0, e1, e2, e3, e4⟩ := hw
  have t0 : (wh == 0) = false := by rw [beq_eq_false_iff_ne]; exact e0
  have t1 : (wh == 1) = false := by rw [beq_eq_false_iff_ne]; exact e1
  have t2 : (wh == 2) = false := by rw [beq_eq_false_iff_ne]; exact e2
  have t3 : (wh == 3) = false := by rw [beq_eq_false_iff_ne]; exact e3
  have t4 : (wh == 4) = false := by rw [beq_eq_false_iff_ne]; exact e4
  clear e0 e1 e2 e3 e4 hb
  unfold Runs
  conv => arg 2; whnf
  go_wp2
  exact ⟨F, c, ⟨rfl, rfl, rfl, rfl, rfl, rfl, rfl, rfl, rfl, rfl, rfl, rfl⟩, HS.out.more (by omega), HB.out⟩
set_option maxRecDepth 100000 in
set_option maxHeartbeats 3200000 in
theorem arm4_no (w0 : World) (v0 va : Value) (gL gA n k kk : Nat) (F : Nat → List Nat) (c : Nat → Nat) (x : ActD) (a : Act) (w : World) (inn : Bool)
    (h : PlayL1 a v0 va (.pointer (some ⟨w0.heap.size + 1, 0, none⟩)) (.int .i64 n) (.pointer (some ⟨gL, 0, none⟩)) (.pointer (some ⟨gL + 1, 0, none⟩)) (.int .i64 k) (.pointer (some ⟨gA, 0, none⟩)) (.bool false) (.int .i64 kk) (.bool inn) (.int .i64 0) (.int .i64 x.what))
    (hs : St w0 gL n k F c w) (hk80 : k ≤ 1000) (hg : gL + 2 ≤ gA) (hb : Blk w gA 33 #[.int .i64 x.what, .int .i64 x.f, .int .i64 x.at_, .int .i64 x.n, x.v]) (hx : Bts w w0.heap.size x.v x.xs) (hi : I64 x.f ∧ I64 x.at_ ∧ I64 x.n)
    (hw : x.what = 4) (hf : x.f < 0 ∨ (n : Int) ≤ x.f) :
    Runs Try.prog cSw a w (ArmP w0 v0 va gL gA n k kk false x) := by
  obtain ⟨u, rfl⟩ := h.open_
  obtain ⟨wh, f, p, q, v, xs⟩ := x
  obtain ⟨vA, vl, vc, rfl, hvl, hvm, -⟩ := id hx
  have hn := hs.2.1.few
  have HS := Lib.hid hs
  have HB := Lib.hid hb
  have HX := Lib.hid hx
  have HI := Lib.hid hi
  have HVL := Lib.hid hvl
  unfold maxLen at hvm
  clear hs hx h hi hvl
  obtain rfl : wh = 4 := hw
  have hc1 : w.cell? ⟨gA, 1, none⟩ = some (.int .i64 f) := by rw [hb.cell]; rfl
  have HP := Lib.hid (poison_none _ f w (has_no _ _ _ _ _ f w HS.out.2.1 hf))
  clear hb hf
  unfold Runs
  conv => arg 2; whnf
  go_wp2_with fail
  refine HP.out.mono ?_
  rintro e w1 ⟨rfl, rfl⟩
  go_wp2
  exact ⟨F, c, ⟨rfl, rfl, rfl, rfl, rfl, rfl, rfl, rfl, rfl, rfl, rfl, rfl⟩, HS.out.more (by omega), HB.out⟩
set_option maxRecDepth 100000 in
set_option maxHeartbeats 3200000 in
theorem arm4_bad (w0 : World) (v0 va : Value) (gL gA n k kk : Nat) (F : Nat → List Nat) (c : Nat → Nat) (x : ActD) (a : Act) (w : World) (inn : Bool)
    (h : PlayL1 a v0 va (.pointer (some ⟨w0.heap.size + 1, 0, none⟩)) (.int .i64 n) (.pointer (some ⟨gL, 0, none⟩)) (.pointer (some ⟨gL + 1, 0, none⟩)) (.int .i64 k) (.pointer (some ⟨gA, 0, none⟩)) (.bool true) (.int .i64 kk) (.bool inn) (.int .i64 0) (.int .i64 x.what))
    (hs : St w0 gL n k F c w) (hk80 : k ≤ 1000) (hg : gL + 2 ≤ gA) (hb : Blk w gA 33 #[.int .i64 x.what, .int .i64 x.f, .int .i64 x.at_, .int .i64 x.n, x.v]) (hx : Bts w w0.heap.size x.v x.xs) (hi : I64 x.f ∧ I64 x.at_ ∧ I64 x.n)
    (hw : x.what = 4) (hf : x.f = kk) (hkk : kk < n) (hc : 0 < c kk) :
    Runs Try.prog cSw a w (ArmP w0 v0 va gL gA n k kk true x) := by
  obtain ⟨u, rfl⟩ := h.open_
  obtain ⟨wh, f, p, q, v, xs⟩ := x
  obtain ⟨vA, vl, vc, rfl, hvl, hvm, -⟩ := id hx
  have hn := hs.2.1.few
  have HS := Lib.hid hs
  have HB := Lib.hid hb
  have HX := Lib.hid hx
  have HI := Lib.hid hi
  have HVL := Lib.hid hvl
  unfold maxLen at hvm
  clear hs hx h hi hvl
  obtain rfl : wh = 4 := hw
  obtain rfl : f = kk := hf
  have g1 : (0 : Int) ≤ (kk : Int) := by omega
  have g2 : (kk : Int) < 1024 := by omega
  have hc1 : w.cell? ⟨gA, 1, none⟩ = some (.int .i64 (kk : Int)) := by rw [hb.cell]; rfl
  have HP := Lib.hid (poison_bad _ _ _ _ _ kk w HS.out.2.1 hkk (decide_eq_true hc))
  have hck := HS.out.2.2.2.1.cell (k := kk) (by omega)
  have hfz := HS.out.2.2.2.1.frozen kk
  have hle := HS.out.2.2.2.2.1 kk
  have HST := Lib.hid (HS.out.2.2.2.1.set_ (k := kk) (by omega) (c kk + 1))
  obtain ⟨y, hy⟩ : ∃ y, y = c kk := ⟨_, rfl⟩
  rw [← hy] at hck hle hc HST
  have HY := Lib.hid hy
  have t1 : ((y : Int) == 0) = false := by rw [beq_eq_false_iff_ne]; omega
  have t2 : (y == 0) = false := by rw [beq_eq_false_iff_ne]; omega
  clear hb hy
  unfold Runs
  conv => arg 2; whnf
  go_wp2_with fail
  refine HP.out.mono ?_
  rintro e w1 ⟨rfl, rfl⟩
  go_wp2
  refine ⟨F, upd c kk (y + 1), ⟨rfl, rfl, rfl, rfl, rfl, rfl, rfl, rfl, rfl, rfl, rfl, rfl⟩, ?_, ?_⟩
  · exact arm4_st HS.out (by have := HST.out; exact this) HY.out (fun _ => by rw [← HY.out]; omega) (by rw [← HY.out]; omega)
  · exact HB.out.far_ (by simp; omega) _
set_option maxRecDepth 100000 in
set_option maxHeartbeats 3200000 in
theorem arm4_good (w0 : World) (v0 va : Value) (gL gA n k kk : Nat) (F : Nat → List Nat) (c : Nat → Nat) (x : ActD) (a : Act) (w : World) (inn : Bool)
    (h : PlayL1 a v0 va (.pointer (some ⟨w0.heap.size + 1, 0, none⟩)) (.int .i64 n) (.pointer (some ⟨gL, 0, none⟩)) (.pointer (some ⟨gL + 1, 0, none⟩)) (.int .i64 k) (.pointer (some ⟨gA, 0, none⟩)) (.bool true) (.int .i64 kk) (.bool inn) (.int .i64 0) (.int .i64 x.what))
    (hs : St w0 gL n k F c w) (hk80 : k ≤ 1000) (hg : gL + 2 ≤ gA) (hb : Blk w gA 33 #[.int .i64 x.what, .int .i64 x.f, .int .i64 x.at_, .int .i64 x.n, x.v]) (hx : Bts w w0.heap.size x.v x.xs) (hi : I64 x.f ∧ I64 x.at_ ∧ I64 x.n)
    (hw : x.what = 4) (hf : x.f = kk) (hkk : kk < n) (hc : c kk = 0) :
    Runs Try.prog cSw a w (ArmP w0 v0 va gL gA n k kk true x) := by
  obtain ⟨u, rfl⟩ := h.open_
  obtain ⟨wh, f, p, q, v, xs⟩ := x
  obtain ⟨vA, vl, vc, rfl, hvl, hvm, -⟩ := id hx
  have hn := hs.2.1.few
  have HS := Lib.hid hs
  have HB := Lib.hid hb
  have HX := Lib.hid hx
  have HI := Lib.hid hi
  have HVL := Lib.hid hvl
  unfold maxLen at hvm
  clear hs hx h hi hvl
  obtain rfl : wh = 4 := hw
  obtain rfl : f = kk := hf
  have g1 : (0 : Int) ≤ (kk : Int) := by omega
  have g2 : (kk : Int) < 1024 := by omega
  have hc1 : w.cell? ⟨gA, 1, none⟩ = some (.int .i64 (kk : Int)) := by rw [hb.cell]; rfl
  have HP := Lib.hid (poison_yes _ _ _ _ _ kk w HS.out.2.1 hkk (decide_eq_false (by omega)))
  have HCN := Lib.hid HS.out.2.2.2.1
  have HG := Lib.hid HS.out.2.2.2.2.2
  have HC := Lib.hid hc
  clear hc hb
  unfold Runs
  conv => arg 2; whnf
  go_wp2_with fail
  refine HP.out.mono ?_
  rintro e w1 ⟨rfl, hm1, ho1⟩
  have HM1 := Lib.hid hm1
  have HO1 := Lib.hid ho1
  have hck : w1.cell? ⟨gL + 1, kk, none⟩ = some (.int .i64 0) := by
    have := (HCN.out.only ho1 (by have := HG.out; omega)).cell (k := kk) (by omega)
    rw [HC.out] at this
    exact this
  have hfz := (HCN.out.only ho1 (by have := HG.out; omega)).frozen kk
  clear hm1 ho1
  go_wp2
  refine ⟨F, upd c kk 1, ⟨rfl, rfl, rfl, rfl, rfl, rfl, rfl, rfl, rfl, rfl, rfl, rfl⟩, arm4_st1 HS.out HO1.out HM1.out (by omega) HC.out, (HO1.out.blk HB.out (by have := HG.out; omega)).far_ (by simp; omega) _⟩
end Go.Proofs.Ytlodeejeeldplaa
