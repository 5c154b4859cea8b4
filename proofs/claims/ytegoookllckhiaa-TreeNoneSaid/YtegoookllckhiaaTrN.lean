/-
  The contract of a tree's New.
  Conditions: those that each line bears.
-/
import Derived.Test.YtegoookllckhiaaTrL
namespace Go.Proofs.Ytegoookllckhiaa
open Go.RowKit
set_option linter.unusedVariables false

set_option maxRecDepth 20000 in
set_option maxHeartbeats 1600000 in
theorem tnew_any (gR gF gP : Nat) (F : Nat → List Nat) (bad : Nat → Bool) (p : PS) (w : World) (hM : Mem w gR gF 1024 F bad) (hP : PoolIn w gP p) (h1 : gR ≠ gP) (h2 : gF ≠ gP) (hb : ∀ f, f < 1024 → bad f = false) :
    Calls Try.prog 10 #[.pointer (some ⟨gR, 0, none⟩), .pointer (some ⟨gP, 0, none⟩)] w fun e w' =>
      (∃ gT gS gL f F', e = .returned (.tuple #[.pointer (some ⟨gT, 0, none⟩), .int .i64 0]) ∧ FirstF p 2 (2 ^ 0) (some f) ∧ TreeB w' gT gR gP f gS ∧ SetAt w' gS gL (putB (List.replicate 1024 false) true (zI [f])) ∧ Mem w' gR gF 1024 F' bad ∧ F' f = zer ∧ (∀ x, x ≠ f → F' x = F x) ∧ PoolIn w' gP ⟨p.u.set f 2, p.z, p.i⟩ ∧ (w.heap.size ≤ gT ∧ w.heap.size ≤ gS ∧ w.heap.size ≤ gL) ∧ Dif gT gP gS gL ∧ Turns (fun k => k = gP ∨ k = gF) w w') ∨
      (FirstF p 2 (2 ^ 0) none ∧ e = .returned (.tuple #[.pointer none, .int .i64 4]) ∧ PoolIn w' gP p ∧ Turns (fun k => k = gP) w w') := by
  have RN := Lib.hid (runs_new 1024 w)
  have HM := Lib.hid hM
  have HP := Lib.hid hP
  have HBD := Lib.hid hb
  have HLT := Lib.hid (show gR < w.heap.size ∧ gF < w.heap.size ∧ gP < w.heap.size from ⟨hM.lt.1, hM.lt.2, PoolMem.lt hP _ rfl⟩)
  clear hM hP hb
  go_enter Try.func10, Try.ntmps10
  go_wp2_with fail
  refine RN.out.mono ?_
  rintro e w1 ⟨gS, K, rfl, ⟨gL, rfl, k1, k2, k3, k4⟩, hK, hb1⟩
  have hlt := HLT.out
  have hc : cutN 1024 = 1024 := by decide
  rw [hc] at k1 k2 k4
  have hS1 : SetAt w1 gS gL (List.replicate 1024 false) := ⟨k1, k2, k3, List.length_replicate⟩
  have hgS := hK gS (.inl rfl)
  have hgL := hK gL (.inr rfl)
  have hB2 := hb1.alloc hb1.size (.cells (treeV gR gP 0 gS) 59)
  have T2 := Lib.hid (show TreeB (w1.alloc (.cells (treeV gR gP 0 gS) 59)) w1.heap.size gR gP 0 gS from Blk.new w1 _ _)
  have hS2 : SetAt (w1.alloc (.cells (treeV gR gP 0 gS) 59)) gS gL (List.replicate 1024 false) := hS1.fresh ((Below.refl _ _).alloc (Nat.le_refl _) _)
  have hsz := hb1.size
  have hl1 := hS1.lt
  have HD := Lib.hid (show Dif2 w1.heap.size gR gF gP gS gL from ⟨⟨by omega, by omega, by omega, by omega, by omega⟩, h1, by omega, by omega, h2, by omega, by omega, by omega⟩)
  have AD := Lib.hid (tadd_any w1.heap.size gR gF gP 0 gS gL 1 F bad p (List.replicate 1024 false) _ T2.out (HM.out.below hB2 HM.out.lt.1 HM.out.lt.2) HBD.out (HP.out.fresh hB2) hS2 HD.out (by omega))
  have HB2 := Lib.hid hB2
  have HGS := Lib.hid (show w.heap.size ≤ w1.heap.size ∧ w.heap.size ≤ gS ∧ w.heap.size ≤ gL from ⟨hsz, hgS, hgL⟩)
  unfold treeV at AD
  clear k1 k2 k3 k4 hK hb1 hlt hc hS1 hS2 hgS hgL hB2 hsz hl1
  go_wp2_with fail
  refine AD.out.mono ?_
  rintro e w3 ⟨m, ⟨hml, htk, v, F', rfl, hrow, hm3, hz3, ho3, hp3, hs3, ht3⟩ | ⟨hml, htk, hno, rfl, hp3, hs3, ht3⟩⟩
  · obtain ⟨f, rfl⟩ : ∃ f, m = [f] := by
      match m, hml with
      | [f], _ => exact ⟨f, rfl⟩
    obtain ⟨gv, ov, cv, rfl, hcv, hcc⟩ := hrow.some_ (by omega)
    have cc : w3.cell? ⟨gv, ov + 0, none⟩ = some (.int .i64 (f : Int)) := hcc 0 _ rfl
    rw [Nat.add_zero] at cc
    have hT3 : TreeB w3 w1.heap.size gR gP 0 gS := ht3.blk T2.out (by have h := HD.out; have h' := h.d; rintro (e | e | e | e); exact h'.tP e; exact h'.tS e; exact h'.tL e; exact h.fT e.symm)
    have c2 : w3.cell? ⟨w1.heap.size, 2, none⟩ = some (.int .i64 ((0 : Nat) : Int)) := Blk.cell hT3 2
    have f2 : w3.frozen? ⟨w1.heap.size, 2, none⟩ = false := Blk.frozen hT3 2
    have HT3 := Lib.hid hT3
    have HTK := Lib.hid htk
    have HM3 := Lib.hid hm3
    have HZ3 := Lib.hid hz3
    have HO3 := Lib.hid ho3
    have HP3 := Lib.hid hp3
    have HS3 := Lib.hid hs3
    have HU3 := Lib.hid ht3
    have hcv1 : 1 ≤ cv := hcv
    clear hml htk hrow hm3 hz3 ho3 hp3 hs3 ht3 hT3 hcc hcv
    go_wp2_with fail
    go_ret2
    have hlt := HLT.out
    have hgs := HGS.out
    have hd := HD.out
    have TW : Turns (fun k => k = w1.heap.size) w3 (w3.setCell ⟨w1.heap.size, 2, none⟩ (.int .i64 (f : Int))) := Turns.of_only ((Only.refl _ w3).setCell 2 _) rfl
    refine .inl ⟨w1.heap.size, gS, gL, f, F', rfl, HTK.out 0 (by simp), HT3.out.set_ 2 _, HS3.out.turns TW (fun e => hd.d.tS e.symm) (fun e => hd.d.tL e.symm), HM3.out.turns TW (by omega) (by omega), HZ3.out f (by simp), fun x hx => HO3.out x (by simp [hx]), ?_, hgs, hd.d, ?_⟩
    · exact HP3.out.turns TW (fun e => hd.d.tP e.symm)
    · have h3 := HB2.out.size
      refine ⟨TW.os.trans (HU3.out.os.trans HB2.out.os), TW.tape.trans (HU3.out.tape.trans HB2.out.tape), TW.output.trans (HU3.out.output.trans HB2.out.output), Nat.le_trans (Nat.le_trans h3 HU3.out.size) TW.size, fun j hj hn => ?_⟩
      have h4 := HU3.out.size
      simp only [World.size_alloc] at h3 h4
      exact (TW.block j (by omega) (by omega)).trans ((HU3.out.block j (by simp only [World.size_alloc]; omega) (by rintro (e | e | e | e); exact hn (.inl e); omega; omega; exact hn (.inr e))).trans (HB2.out.block j hj))
  · obtain rfl : m = [] := List.eq_nil_of_length_eq_zero (by omega)
    have HNO := Lib.hid hno
    have HP3 := Lib.hid hp3
    have HU3 := Lib.hid ht3
    clear hml htk hno hp3 hs3 ht3
    go_wp2_with fail
    go_ret2
    refine .inr ⟨HNO.out, rfl, HP3.out, ?_⟩
    have hlt := HLT.out
    have hgs := HGS.out
    have h3 := HB2.out.size
    refine ⟨HU3.out.os.trans HB2.out.os, HU3.out.tape.trans HB2.out.tape, HU3.out.output.trans HB2.out.output, Nat.le_trans h3 HU3.out.size, fun j hj hn => ?_⟩
    exact (HU3.out.block j (by simp only [World.size_alloc] at h3 ⊢; omega) (by rintro (e | e | e); exact hn e; omega; omega)).trans (HB2.out.block j hj)
end Go.Proofs.Ytegoookllckhiaa
