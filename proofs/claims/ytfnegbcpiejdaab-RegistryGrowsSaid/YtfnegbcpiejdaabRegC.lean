/-
  A registry in memory; the contracts of its State, and of 'without': frames without those that are bad.
  Conditions: the lists are read in memory.
-/
import Derived.Test.YtfnegbcpiejdaabRegB
import Derived.Test.YtfnegbcpiejdaabRegF
import Derived.Test.YtfnegbcpiejdaabMapV
namespace Go.Proofs.Ytfnegbcpiejdaab
open Go.RowKit
set_option linter.unusedVariables false

/-- The bad frames, as a map has them. -/
def badF (l : List Bool) : Nat → Option Value := fun j => if l.getD j false = true then some (.agg #[]) else none
theorem badF_set {l : List Bool} {f : Nat} (hf : f < l.length) : upd (badF l) f (some (.agg #[])) = badF (l.set f true) := by
  funext k
  unfold upd badF
  simp only [List.getD_eq_getElem?_getD, List.getElem?_set]
  by_cases e : k = f
  · subst e; simp [hf]
  · have e2 : ¬ f = k := fun h => e h.symm
    simp only [if_neg e, if_neg e2]
theorem badF_some (l : List Bool) (j : Nat) : (badF l j).isSome = l.getD j false := by
  unfold badF
  cases l.getD j false <;> rfl
theorem badF_getD (l : List Bool) (j : Nat) : (badF l j).getD (.agg #[]) = .agg #[] := by
  unfold badF
  cases l.getD j false <;> rfl
/-- A registry's cells. -/
def regL (gJ gB : Nat) (sts : List Nat) : List Value := .pointer (some ⟨gJ, 0, none⟩) :: .map (some gB) :: sts.map (fun s => Value.int .i64 ((s : Nat) : Int))
theorem regL_st (gJ gB : Nat) {sts : List Nat} {k : Nat} (hk : k < sts.length) : (regL gJ gB sts)[2 + k]? = some (.int .i64 ((sts.getD k 0 : Nat) : Int)) := by
  unfold regL
  rw [show 2 + k = k + 1 + 1 by omega]
  simp [hk]
theorem regL_set (gJ gB : Nat) (sts : List Nat) (k v : Nat) : (regL gJ gB sts).set (2 + k) (.int .i64 ((v : Nat) : Int)) = regL gJ gB (sts.set k v) := by
  unfold regL
  rw [show 2 + k = k + 1 + 1 by omega]
  simp [List.map_set]
/-- A registry's own blocks: gR its cells, gB its bad frames; gJ: where its journal is. -/
structure RegAt (w : World) (gR gB gJ : Nat) (md : MD) : Prop where
  reg : Blk w gR 74 (regL gJ gB md.2).toArray
  bad : MapV Try.prog 3 w gB 1024 (badF md.1)
  ok : MdOk md
  ne : gR ≠ gB
theorem Try.zeroUnit (w : World) : (zeroValue 80).run Try.prog w = .ok (.agg #[]) w := by kernel_rfl
section
variable {w w' : World} {gR gB gJ : Nat} {md : MD}
theorem RegAt.far (h : RegAt w gR gB gJ md) (h1 : w'.heap[gR]? = w.heap[gR]?) (h2 : w'.heap[gB]? = w.heap[gB]?) : RegAt w' gR gB gJ md := ⟨h1.trans h.reg, h.bad.far h2, h.ok, h.ne⟩
theorem RegAt.below {B : Nat} (h : RegAt w gR gB gJ md) (hb : Below B w w') (h1 : gR < B) (h2 : gB < B) : RegAt w' gR gB gJ md := h.far (hb.block gR h1) (hb.block gB h2)
theorem RegAt.fresh (h : RegAt w gR gB gJ md) (hb : Below w.heap.size w w') : RegAt w' gR gB gJ md := h.below hb h.reg.lt h.bad.blk
theorem RegAt.cell0 (h : RegAt w gR gB gJ md) : w.cell? ⟨gR, 0, none⟩ = some (.pointer (some ⟨gJ, 0, none⟩)) := by rw [h.reg.cellL]; rfl
theorem RegAt.cell1 (h : RegAt w gR gB gJ md) : w.cell? ⟨gR, 1, none⟩ = some (.map (some gB)) := by rw [h.reg.cellL]; rfl
theorem RegAt.cellS (h : RegAt w gR gB gJ md) {k : Nat} (hk : k < 32) : w.cell? ⟨gR, 2 + k, none⟩ = some (.int .i64 ((md.2.getD k 0 : Nat) : Int)) := by
  rw [h.reg.cellL]
  exact regL_st gJ gB (by rw [h.ok.st]; exact hk)
theorem RegAt.look (h : RegAt w gR gB gJ md) (j : Nat) (hj : j < 1024) :
    (Instr.lookup 71 (.map (some gB)) (.int .i64 (j : Int)) true).run Try.prog w = .ok (.tuple #[.agg #[], .bool (md.1.getD j false)]) w := by
  have := h.bad.run_look Try.underlying3 Try.underlying71 (Try.zeroUnit w) j (WalkArith.wf_i64 (by omega))
  rwa [badF_getD, badF_some] at this
end

/-! ### State -/
theorem state_nil (s : Int) (w : World) :
    Calls Try.prog 25 #[.pointer none, .int .i64 s] w fun e w' => e = .returned (.int .i64 0) ∧ w = w' := by
  go_enter Try.func25, Try.ntmps25
  go_wp2
  go_ret
  exact ⟨rfl, rfl⟩
set_option maxRecDepth 20000 in
set_option maxHeartbeats 800000 in
theorem state_any (gR gB gJ : Nat) (md : MD) (s : Int) (w : World) (h : RegAt w gR gB gJ md) :
    Calls Try.prog 25 #[.pointer (some ⟨gR, 0, none⟩), .int .i64 s] w fun e w' => e = .returned (.int .i64 (if 0 ≤ s ∧ s ≤ 31 then ((md.2.getD s.toNat 0 : Nat) : Int) else 0)) ∧ Drew w w' := by
  have IS := Lib.hid (isSect_any s)
  by_cases c : 0 ≤ s ∧ s ≤ 31
  · simp only [decide_eq_true c] at IS
    rw [if_pos c]
    obtain ⟨k, rfl⟩ := Int.eq_ofNat_of_zero_le c.1
    have hk : k < 32 := by omega
    have cS := h.cellS hk
    rw [Int.toNat_natCast]
    obtain ⟨y, hy⟩ : ∃ y, y = md.2.getD k 0 := ⟨_, rfl⟩
    rw [← hy] at cS ⊢
    clear hy h c
    go_enter Try.func25, Try.ntmps25
    go_wp2_with fail
    refine (IS.out _).mono ?_
    rintro e w' ⟨rfl, rfl⟩
    go_wp2
    go_ret
    exact ⟨rfl, 0, rfl⟩
  · simp only [decide_eq_false c] at IS
    rw [if_neg c]
    clear h c
    go_enter Try.func25, Try.ntmps25
    go_wp2_with fail
    refine (IS.out _).mono ?_
    rintro e w' ⟨rfl, rfl⟩
    go_wp2
    go_ret
    exact ⟨rfl, 0, rfl⟩

/-! ### without -/
theorem Try.egWithout : ∀ args w, (callFunc 59 args).run Try.prog w = .ok (.enter 59 args) w := enters_of Try.func59 (by kernel_rfl) rfl
def isBad (md : MD) (f : Int) : Bool := md.1.getD f.toNat false
set_option maxRecDepth 20000 in
set_option maxHeartbeats 800000 in
theorem withoutP_any (b0 gR gB gJ : Nat) (md : MD) (f : Nat) (w : World) (h : RegAt w gR gB gJ md) (h0 : w.cell? ⟨b0, 0, none⟩ = some (.pointer (some ⟨gR, 0, none⟩))) (hf : f < 1024) :
    Calls Try.prog 59 #[.int .i64 (f : Int), .pointer (some ⟨b0, 0, none⟩)] w fun e w' => e = .returned (.bool (md.1.getD f false)) ∧ Below w.heap.size w w' := by
  have c1 := h.cell1
  have hl := h.look f hf
  obtain ⟨y, hy⟩ : ∃ y, y = md.1.getD f false := ⟨_, rfl⟩
  rw [← hy] at hl ⊢
  clear hy h
  go_enter Try.func59, Try.ntmps59
  go_wp2
  go_ret
  exact ⟨rfl, (Below.refl _ _).alloc (Nat.le_refl _) _⟩
set_option maxRecDepth 20000 in
set_option maxHeartbeats 800000 in
theorem without_any (gR gB gJ : Nat) (md : MD) (v : Value) (xs : List Int) (w : World) (h : RegAt w gR gB gJ md) (hv : Its w w.heap.size v xs) (hb : MayBad xs) :
    Calls Try.prog 39 #[.pointer (some ⟨gR, 0, none⟩), v] w fun e w' => ∃ v', e = .returned v' ∧ Its w' w'.heap.size v' (xs.filter (fun x => !isBad md x)) ∧ Below w.heap.size w w' := by
  have A1 := Lib.hid (show Below w.heap.size w (w.alloc (.cells #[.pointer (some ⟨gR, 0, none⟩)] 38)) from (Below.refl _ _).alloc (Nat.le_refl _) _)
  obtain ⟨A, n, c, rfl, -⟩ := id hv
  have HR := Lib.hid (h.fresh A1.out)
  have HB := Lib.hid hb
  have HLT := Lib.hid (show gR < w.heap.size ∧ gB < w.heap.size from ⟨h.reg.lt, h.bad.blk⟩)
  have HCL := Lib.hid (clone_any _ xs _ ((hv.below A1.out).more A1.out.size) hb.1)
  clear h hv hb
  go_enter Try.func39, Try.ntmps39
  go_wp2_with fail
  refine HCL.out.mono ?_
  rintro e w2 ⟨v2, rfl, ho2, hb2⟩
  have hP : PredB 59 #[.pointer (some ⟨w.heap.size, 0, none⟩)] (isBad md) xs (w.heap.size + 1) w2 := by
    intro W x hx hbW _
    obtain ⟨h1, h2⟩ := HB.out.2 x hx
    obtain ⟨k, rfl⟩ := Int.eq_ofNat_of_zero_le h1
    have hsz : (w.alloc (.cells #[.pointer (some ⟨gR, 0, none⟩)] 38)).heap.size = w.heap.size + 1 := World.size_alloc _ _
    rw [hsz] at hb2
    have hb3 := hb2.trans hbW
    have h0 : W.cell? ⟨w.heap.size, 0, none⟩ = some (.pointer (some ⟨gR, 0, none⟩)) := by
      rw [hb3.cell (p := ⟨w.heap.size, 0, none⟩) (Nat.lt_succ_self _), (Blk.new w _ _).cell]
      rfl
    unfold isBad
    rw [Int.toNat_natCast]
    exact withoutP_any w.heap.size gR gB gJ md k W (HR.out.below hb3 (by have := HLT.out.1; omega) (by have := HLT.out.2; omega)) h0 (by omega)
  have hsz : (w.alloc (.cells #[.pointer (some ⟨gR, 0, none⟩)] 38)).heap.size = w.heap.size + 1 := World.size_alloc _ _
  rw [hsz] at ho2 hb2
  have HD := Lib.hid (deleteFunc_any _ _ _ Try.egWithout v2 xs (w.heap.size + 1) w2 ho2 HB.out.1 (Nat.le_trans (Nat.le_of_eq hsz.symm) hb2.size) hP)
  have HB2 := Lib.hid hb2
  obtain ⟨A2, n2, c2, rfl, -⟩ := Its.of_own ho2
  clear ho2 hb2 hP hsz
  go_wp2_with fail
  refine HD.out.mono ?_
  rintro e w3 ⟨v3, rfl, hv3, hb3⟩
  have HV3 := Lib.hid hv3
  have HB3 := Lib.hid hb3
  obtain ⟨A3, n3, c3, rfl, -⟩ := hv3
  clear hb3
  go_wp2
  go_ret
  exact ⟨_, rfl, HV3.out, A1.out.trans ((HB2.out.trans HB3.out).mono (Nat.le_succ _))⟩
end Go.Proofs.Ytfnegbcpiejdaab
