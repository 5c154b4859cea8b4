/-
  The contract of the document's own Slot: of a slot's sixteen sectors its gen, its bytes, and whether it is whole.
  Conditions: there are sixteen sectors, each of 64 bytes; they are read in memory.
-/
import Derived.Test.YtgjedofljojioaaRefHead
import Derived.Test.YtgjedofljojioaaRefGet
import Derived.Test.YtgjedofljojioaaSlotD
import Derived.Deep.RegionHeld3
namespace Go.Proofs.Ytgjedofljojioaa
open Go.RowKit
set_option linter.unusedVariables false

/-- What holds while a head is held against the document's own. -/
def RslS (w : World) (B : Nat) (v : Value) (s : List Nat) (v2 : Value) (b : List Nat) (w' : World) : Prop := Bts w' B v s ∧ Bts w' B v2 b ∧ Below B w w' ∧ B ≤ w'.heap.size
theorem RslS.next {w w' w'' : World} {B : Nat} {v v2 : Value} {s b : List Nat} (h : RslS w B v s v2 b w') (hb : Below w'.heap.size w' w'') : RslS w B v s v2 b w'' :=
  ⟨h.1.below (hb.mono h.2.2.2), h.2.1.below (hb.mono h.2.2.2), h.2.2.1.trans (hb.mono h.2.2.2), Nat.le_trans h.2.2.2 hb.size⟩
theorem RslS.drew {w w' : World} {B : Nat} {v v2 : Value} {s b : List Nat} (h : RslS w B v s v2 b w') : RslS w B v s v2 b w'.drew := ⟨h.1, h.2.1, h.2.2.1.drew, h.2.2.2⟩
theorem RslS.drewN {w w' : World} {B : Nat} {v v2 : Value} {s b : List Nat} (h : RslS w B v s v2 b w') (q : Nat) : RslS w B v s v2 b (w'.drewN q) := ⟨h.1, h.2.1, below_drewN h.2.2.1 q, h.2.2.2⟩
/-- What it leaves. -/
def RSlotPost (w : World) (F : Nat → List Nat) (x : Nat) (e : Ending) (w' : World) : Prop :=
  Below w.heap.size w w' ∧ ∃ (G : Nat) (v : Value) (T : Bool), e = .returned (.tuple #[.int .u32 (G : Int), v, .bool T]) ∧ (T = true ↔ Whole F x) ∧ (T = true → G = sloG F x ∧ Bts w' w'.heap.size v (sloB F x)) ∧ G < 4294967296 ∧ ∃ A n c, v = .slice A n c
/-- What holds ahead of round k. -/
def RslAt (w : World) (F : Nat → List Nat) (a k : Nat) (v : Value) (wx : World) : Prop :=
  wx.ownsRow w.heap.size 5 1 v (64 * k) ((flatN F a k).map bv) ∧ Below w.heap.size w wx

set_option maxRecDepth 20000 in
set_option maxHeartbeats 3200000 in
theorem refSlot_any (A : Option Addr) (c : Nat) (xss : List (List Nat)) (F : Nat → List Nat) (x : Nat) (w : World) (h : Pts w (.slice A 16 c) xss) (hn : xss.length = 16) (hs : ∀ j, j < 16 → xss.getD j [] = F (64 + 16 * x + j)) (hl : ∀ j, j < 16 → (xss.getD j []).length = 64) (hx : x < 2) :
    Calls Try.prog 27 #[.slice A 16 c, .int .u32 (x : Int)] w (RSlotPost w F x) := by
  have HP := Lib.hid h
  have HS := Lib.hid hs
  have HLN := Lib.hid hl
  have HNN := Lib.hid hn
  obtain ⟨b, off, rfl⟩ := h.addr (by omega)
  have hcm : 16 ≤ c ∧ c ≤ maxLen := by
    obtain ⟨A', N', c', e, _, h1, h2, _⟩ := h
    injection e with e1 e2 e3
    omega
  unfold maxLen at hcm
  obtain ⟨hc16, hcm⟩ := hcm
  obtain ⟨u, hcell0, hu⟩ := h.at_ (j := 0) (by omega)
  obtain ⟨s, hse⟩ : ∃ s, s = xss.getD 0 [] := ⟨_, rfl⟩
  rw [← hse] at hu
  have HSE := Lib.hid (show s = F (64 + 16 * x) by rw [hse, hs 0 (by omega)]; rfl)
  have HL := Lib.hid (show s.length = 64 by rw [hse]; exact hl 0 (by omega))
  have HU := Lib.hid hu
  have HBY := Lib.hid hu.byte
  have hux := hu
  obtain ⟨A2, n2, c2, rfl, hl2, _, ⟨hn2c, _⟩, hc2m, _, hx2⟩ := hux
  obtain rfl : n2 = 64 := by have := HL.out; omega
  obtain ⟨b2, off2, rfl, hb2, _⟩ := hx2 (by omega)
  unfold maxLen at hc2m
  rw [Nat.add_zero] at hcell0
  have HF64 := Lib.hid (show ∀ f, 64 + 16 * x ≤ f → f < 80 + 16 * x → (F f).length = 64 from fun f h1 h2 => by
    have := hl (f - (64 + 16 * x)) (by omega)
    rw [hs _ (by omega), show 64 + 16 * x + (f - (64 + 16 * x)) = f by omega] at this
    exact this)
  have hGlt := sloG_lt (F := F) (w := x) (by rw [← HSE.out]; exact HBY.out)
  have hNlt := sloN_lt (F := F) (w := x) (by rw [← HSE.out]; exact HBY.out)
  obtain ⟨g, hg⟩ : ∃ g, g = sloG F x := ⟨_, rfl⟩
  obtain ⟨N, hN⟩ : ∃ N, N = sloN F x := ⟨_, rfl⟩
  rw [← hg] at hGlt
  rw [← hN] at hNlt
  have G1 := Lib.hid (refGet_yes _ s w.heap.size 0 4 w HU.out ⟨by omega, by omega, by omega, by have := HL.out; omega⟩)
  have G2 := Lib.hid (refGet_yes _ s w.heap.size 4 4 w HU.out ⟨by omega, by omega, by omega, by have := HL.out; omega⟩)
  rw [show getV s 0 4 = (g : Int) by unfold getV; rw [hg, HSE.out]; rfl] at G1
  rw [show getV s 4 4 = (N : Int) by unfold getV; rw [hN, HSE.out]; rfl] at G2
  have HG := Lib.hid hg
  have HN := Lib.hid hN
  obtain ⟨i0, hi, hz0, hz1, hz2⟩ := info_parts Try.info8
  have HI := Lib.hid hi
  have HZ0 := Lib.hid hz0
  have HZ1 := Lib.hid hz1
  have HZ2 := Lib.hid hz2
  clear h hn hs hl hi hz0 hz1 hz2 hu hl2 hn2c hx2 hb2 hg hN hse
  go_enter Try.func27, Try.ntmps27
  go_wp2_with fail
  refine G1.out.mono ?_
  rintro e w1 ⟨rfl, rfl⟩
  go_wp2_with fail
  refine G2.out.mono ?_
  rintro e w1 ⟨rfl, rfl⟩
  by_cases k1 : N ≤ 960
  · have d1 : decide ((960 : Int) < (N : Int)) = false := decide_eq_false (by omega)
    go_wp2_with fail
    go_loopg [11, 12] 15 (fun gg s11 s12 wx => ∃ k : Nat, k + gg = 15 ∧ s12 = .int .i64 ((k + 1 : Nat) : Int) ∧ RslAt w F (65 + 16 * x) k s11 wx)
    case atStart => exact ⟨0, rfl, rfl, World.ownsRow_nil _ _ _ _, Below.refl _ _⟩
    case round =>
      obtain ⟨k, hkg, rfl, hr⟩ := hrel
      have HR := Lib.hid hr
      obtain ⟨A9, c9, rfl⟩ := own_any hr.1
      clear hr
      by_cases hk : k < 15
      · have t1 : decide ((k : Int) + 1 < 16) = true := decide_eq_true (by omega)
        obtain ⟨y, hcy, hy⟩ := HP.out.at_ (j := k + 1) (by rw [HNN.out]; omega)
        rw [HS.out _ (by omega), show 64 + 16 * x + (k + 1) = 65 + 16 * x + k by omega] at hy
        have hcell : wr.cell? ⟨b, off + (k + 1), none⟩ = some y := (HR.out.2.cell (World.block_lt_of_cell? w _ hcy)).trans hcy
        have HY := Lib.hid ((hy.below HR.out.2).more HR.out.2.size)
        have HYL := Lib.hid (HF64.out (65 + 16 * x + k) (by omega) (by omega))
        have hyx := hy
        obtain ⟨A3, n3, c3, rfl, -⟩ := hyx
        clear hcy hy
        go_wp2_with (at_builtin; refine wpList_append_bts rfl (.tmp 36) (.tmp 40) 31 rfl w.heap.size 5 i0 Try.underlying31 HI.out HZ0.out HZ1.out HZ2.out (.slice A9 (64 * k) c9) (64 * k) (flatN F (65 + 16 * x) k) rfl HR.out.1 _ (F (65 + 16 * x + k)) rfl wr.heap.size HY.out (by rw [HYL.out]; omega) HR.out.2.size ?_; intro v3 w3 O3 B3)
        go_roundg (14 - k)
        case measure => omega
        case rel =>
          refine ⟨k + 1, by omega, by go_num, ?_, HR.out.2.trans B3.out⟩
          have h3 := O3.out
          rw [HYL.out, ← flatN_succ] at h3
          exact h3
      · obtain rfl : k = 15 := by omega
        obtain ⟨g9, rfl, h9⟩ : ∃ g9, A9 = some ⟨g9, 0, none⟩ ∧ 960 ≤ c9 ∧ c9 ≤ maxLen := by
          rcases HR.out.1.2 with ⟨_, h2⟩ | ⟨q9, cap, cur, h4, _, _, h6, h7, _⟩
          · omega
          · injection h4 with e1 e2 e3
            exact ⟨q9, e1, by omega, by omega⟩
        unfold maxLen at h9
        obtain ⟨h9, h9'⟩ := h9
        have k1i : (N : Int) ≤ 960 := by omega
        have hNc : (N : Int) ≤ (c9 : Int) := by omega
        obtain ⟨r, hr, hr2⟩ : ∃ r : Nat, r = g % 2 ∧ r < 2 := ⟨g % 2, rfl, by omega⟩
        have hr3 : (g : Int) % 2 = (r : Int) := by omega
        have n1 : IntKind.u32.wrap (g : Int) = (g : Int) := by rw [IntKind.wrap_u32]; omega
        have HRR := Lib.hid hr
        clear hr
        obtain ⟨bb, hbb⟩ : ∃ bb, bb = (flatN F (65 + 16 * x) 15).take N := ⟨_, rfl⟩
        have HB := Lib.hid (show bb = sloB F x by rw [hbb, HN.out]; rfl)
        have HBL := Lib.hid (show bb.length = N by rw [hbb, con_length (fun j hj => HF64.out _ (by omega) (by omega))]; omega)
        have YB := Lib.hid (show Bts wr wr.heap.size (.slice (some ⟨g9, 0, none⟩) N c9) bb from by
          rw [hbb]
          exact (Bts.of_own HR.out.1 (flatN_byte (fun j hj y hy => by
            have e := HS.out (j + 1) (by omega)
            rw [show 64 + 16 * x + (j + 1) = 65 + 16 * x + j by omega] at e
            rw [← e] at hy
            obtain ⟨y9, _, hy9⟩ := HP.out.at_ (j := j + 1) (by rw [HNN.out]; omega)
            exact hy9.byte y hy))).front N (by omega))
        have XS := Lib.hid ((HU.out.below HR.out.2).more HR.out.2.size)
        have hcell : wr.cell? ⟨b, off, none⟩ = some (.slice (some ⟨b2, off2, none⟩) 64 c2) := (HR.out.2.cell (World.block_lt_of_cell? w _ hcell0)).trans hcell0
        clear hbb hcell0
        obtain ⟨T, hT⟩ : ∃ T, T = decide (hedL g bb = s) := ⟨_, rfl⟩
        have CUT := Lib.hid (fun (W : World) (h : RslS wr wr.heap.size (.slice (some ⟨b2, off2, none⟩) 64 c2) s (.slice (some ⟨g9, 0, none⟩) N c9) bb W) => refHead_any g (.slice (some ⟨g9, 0, none⟩) N c9) bb wr.heap.size W h.2.1 h.2.2.2 (by rw [HBL.out]; omega) hGlt)
        have SAM := Lib.hid (fun (W : World) (bs : Nat) (r : Value) (ho : W.ownsRow bs 5 1 r 64 ((hedL g bb).map bv)) (h : RslS wr wr.heap.size (.slice (some ⟨b2, off2, none⟩) 64 c2) s (.slice (some ⟨g9, 0, none⟩) N c9) bb W) => same_any r (.slice (some ⟨b2, off2, none⟩) 64 c2) (hedL g bb) s _ _ W (Bts.of_own ho (hedL_byte g bb)) h.1)
        rw [← hT] at SAM
        have HT := Lib.hid hT
        have HCL := Lib.hid (show ∀ w', Below wr.heap.size wr w' → w'.cell? ⟨b, off, none⟩ = some (.slice (some ⟨b2, off2, none⟩) 64 c2) from fun w' hw' => (hw'.cell (World.block_lt_of_cell? wr _ hcell)).trans hcell)
        have HRS := Lib.hid (show RslS wr wr.heap.size (.slice (some ⟨b2, off2, none⟩) 64 c2) s (.slice (some ⟨g9, 0, none⟩) N c9) bb wr from ⟨XS.out, YB.out, Below.refl _ _, Nat.le_refl _⟩)
        have n2 : (g : Int).tmod 2 = (r : Int) := by rw [Int.tmod_eq_emod_of_nonneg (by omega)]; exact hr3
        clear hT
        by_cases k2 : r = x
        · have d2 : ((r : Int) == (x : Int)) = true := by simp [k2]
          have K2 := Lib.hid k2
          clear k2
          go_wp2_with fail
          go_region_held3 (fun w' => w'.cell? ⟨b, off, none⟩ = some (.slice (some ⟨b2, off2, none⟩) 64 c2) ∧ RslS wr wr.heap.size (.slice (some ⟨b2, off2, none⟩) 64 c2) s (.slice (some ⟨g9, 0, none⟩) N c9) bb w')
            (first | assumption | exact ⟨HCL.out _ HRS.out.drew.2.2.1, HRS.out.drew⟩ | exact ⟨HCL.out _ (RslS.next (by assumption) hb).2.2.1, RslS.next (by assumption) hb⟩ | exact ⟨HCL.out _ (RslS.next (And.right (by assumption)) hb).2.2.1, RslS.next (And.right (by assumption)) hb⟩ | exact ⟨HCL.out _ (RslS.drewN (by assumption) _).2.2.1, RslS.drewN (by assumption) _⟩ | exact ⟨HCL.out _ (RslS.drewN (And.right (by assumption)) _).2.2.1, RslS.drewN (And.right (by assumption)) _⟩)
            (first
              | (go_at_call 38; refine (CUT.out _ ?_).mono ?_; (first | assumption | exact And.right (by assumption)); rintro e w' ⟨r, rfl, ho, hb⟩)
              | (go_at_call 15; refine (SAM.out _ _ _ (by assumption) ?_).mono ?_; (first | assumption | exact And.right (by assumption)); rintro e w' ⟨rfl, q, rfl⟩))
          have hS : (w'.drewN q).cell? ⟨b, off, none⟩ = some (.slice (some ⟨b2, off2, none⟩) 64 c2) ∧ RslS wr wr.heap.size (.slice (some ⟨b2, off2, none⟩) 64 c2) s (.slice (some ⟨g9, 0, none⟩) N c9) bb (w'.drewN q) := by assumption
          go_wp2
          go_ret3
          refine ⟨HR.out.2.trans (hS.2.2.2.1.mono HR.out.2.size), g, .slice (some ⟨g9, 0, none⟩) N c9, T, rfl, ⟨fun ht => ?_, fun hw => ?_⟩, fun _ => ⟨HG.out, ?_⟩, hGlt, _, _, _, rfl⟩
          · refine ⟨by rw [← HN.out]; omega, by rw [← HG.out, ← HRR.out]; exact K2.out, ?_⟩
            rw [← HG.out, ← HB.out, ← HSE.out]
            rw [HT.out] at ht
            exact of_decide_eq_true ht
          · rw [HT.out]
            refine decide_eq_true ?_
            rw [HG.out, HB.out, HSE.out]
            exact hw.2.2
          · rw [← HB.out]
            exact hS.2.2.1.more hS.2.2.2.2
        · have d2 : ((r : Int) == (x : Int)) = false := by simp; omega
          go_wp2_with fail
          refine wp_region_noPanic ?_
          refine wp_region_any (by kernel_rfl) ?_
          try (change wpAny _ _ _ _ _ _ _ (World.drew _))
          refine wpAny_take (i := 0) (v := ?v1) rfl (by kernel_rfl) (by kernel_rfl) (by kernel_rfl) (fun _ _ _ h => h) (Or.inl ⟨by rfl, ?hy1⟩) ?rest1
          case hy1 => (intro w; go_simp; try with_reducible rfl)
          try simp only [Act.put, List.getElem_toArray, List.getElem_cons_zero, List.setIfInBounds_toArray, List.set_cons_zero, List.set_cons_succ]
          refine wpAny_take (i := 1) (v := ?v2) rfl (by kernel_rfl) (by kernel_rfl) (by kernel_rfl) (fun _ _ _ h => h) (Or.inl ⟨by rfl, ?hy2⟩) ?rest2
          case hy2 => (intro w; go_simp; try with_reducible rfl)
          try simp only [Act.put, List.getElem_toArray, List.getElem_cons_succ, List.getElem_cons_zero, List.setIfInBounds_toArray, List.set_cons_zero, List.set_cons_succ]
          refine wpAny_take (i := 2) (v := ?v3) rfl (by kernel_rfl) (by kernel_rfl) (by kernel_rfl) (fun _ _ _ h => h) (Or.inl ⟨by rfl, ?hy3⟩) ?rest3
          case hy3 => (intro w; go_simp; try with_reducible rfl)
          try simp only [Act.put, List.getElem_toArray, List.getElem_cons_succ, List.getElem_cons_zero, List.setIfInBounds_toArray, List.set_cons_zero, List.set_cons_succ]
          refine wpAny_take (i := 3) (v := ?v4) rfl (by kernel_rfl) (by kernel_rfl) (by kernel_rfl) (fun _ _ _ h => h) (Or.inl ⟨by rfl, ?hy4⟩) ?rest4
          case hy4 => (intro w; go_simp; try with_reducible rfl)
          try simp only [Act.put, List.getElem_toArray, List.getElem_cons_succ, List.getElem_cons_zero, List.setIfInBounds_toArray, List.set_cons_zero, List.set_cons_succ]
          refine wpAny_take (i := 4) (v := ?v5) rfl (by kernel_rfl) (by kernel_rfl) (by kernel_rfl) (fun _ _ _ h => h) (Or.inl ⟨by rfl, ?hy5⟩) ?rest5
          case hy5 => (intro w; go_simp; try with_reducible rfl)
          try simp only [Act.put, List.getElem_toArray, List.getElem_cons_succ, List.getElem_cons_zero, List.setIfInBounds_toArray, List.set_cons_zero, List.set_cons_succ]
          refine wpAny_take (i := 5) (v := ?v6) rfl (by kernel_rfl) (by kernel_rfl) (by kernel_rfl) (fun _ _ _ h => h) (Or.inl ⟨by rfl, ?hy6⟩) ?rest6
          case hy6 => (intro w; go_simp; try with_reducible rfl)
          try simp only [Act.put, List.getElem_toArray, List.getElem_cons_succ, List.getElem_cons_zero, List.setIfInBounds_toArray, List.set_cons_zero, List.set_cons_succ]
          refine wpAny_take (i := 6) (v := ?v7) rfl (by kernel_rfl) (by kernel_rfl) (by kernel_rfl) (fun _ _ _ h => h) (Or.inl ⟨by rfl, ?hy7⟩) ?rest7
          case hy7 => (intro w; go_simp; try with_reducible rfl)
          try simp only [Act.put, List.getElem_toArray, List.getElem_cons_succ, List.getElem_cons_zero, List.setIfInBounds_toArray, List.set_cons_zero, List.set_cons_succ]
          refine wpAny_take (i := 7) (v := ?v8) rfl (by kernel_rfl) (by kernel_rfl) (by kernel_rfl) (fun _ _ _ h => h) (Or.inl ⟨by rfl, ?hy8⟩) ?rest8
          case hy8 => (intro w; go_simp; try with_reducible rfl)
          try simp only [Act.put, List.getElem_toArray, List.getElem_cons_succ, List.getElem_cons_zero, List.setIfInBounds_toArray, List.set_cons_zero, List.set_cons_succ]
          refine wpAny_take (i := 8) (v := ?v9) rfl (by kernel_rfl) (by kernel_rfl) (by kernel_rfl) (fun _ _ _ h => h) (Or.inl ⟨by rfl, ?hy9⟩) ?rest9
          case hy9 => (intro w; go_simp; try with_reducible rfl)
          try simp only [Act.put, List.getElem_toArray, List.getElem_cons_succ, List.getElem_cons_zero, List.setIfInBounds_toArray, List.set_cons_zero, List.set_cons_succ]
          refine wpAny_take (i := 9) (v := undef) rfl (by kernel_rfl) (by kernel_rfl) (by kernel_rfl) (fun _ _ _ h => h) (Or.inr ⟨by rfl, rfl⟩) ?_
          try simp only [Act.put, List.getElem_toArray, List.getElem_cons_succ, List.getElem_cons_zero, List.setIfInBounds_toArray, List.set_cons_zero, List.set_cons_succ]
          refine wpAny_take (i := 10) (v := undef) rfl (by kernel_rfl) (by kernel_rfl) (by kernel_rfl) (fun _ _ _ h => h) (Or.inr ⟨by rfl, rfl⟩) ?_
          try simp only [Act.put, List.getElem_toArray, List.getElem_cons_succ, List.getElem_cons_zero, List.setIfInBounds_toArray, List.set_cons_zero, List.set_cons_succ]
          refine wpAny_take (i := 11) (v := undef) rfl (by kernel_rfl) (by kernel_rfl) (by kernel_rfl) (fun _ _ _ h => h) (Or.inr ⟨by rfl, rfl⟩) ?_
          try simp only [Act.put, List.getElem_toArray, List.getElem_cons_succ, List.getElem_cons_zero, List.setIfInBounds_toArray, List.set_cons_zero, List.set_cons_succ]
          refine wpAny_take (i := 13) (v := undef) rfl (by kernel_rfl) (by kernel_rfl) (by kernel_rfl) (fun _ _ _ h => h) (Or.inr ⟨by rfl, rfl⟩) ?_
          try simp only [Act.put, List.getElem_toArray, List.getElem_cons_succ, List.getElem_cons_zero, List.setIfInBounds_toArray, List.set_cons_zero, List.set_cons_succ]
          refine wpAny_take (i := 14) (v := undef) rfl (by kernel_rfl) (by kernel_rfl) (by kernel_rfl) (fun _ _ _ h => h) (Or.inr ⟨by rfl, rfl⟩) ?_
          try simp only [Act.put, List.getElem_toArray, List.getElem_cons_succ, List.getElem_cons_zero, List.setIfInBounds_toArray, List.set_cons_zero, List.set_cons_succ]
          refine wpAny_take (i := 15) (v := undef) rfl (by kernel_rfl) (by kernel_rfl) (by kernel_rfl) (fun _ _ _ h => h) (Or.inr ⟨by rfl, rfl⟩) ?_
          try simp only [Act.put, List.getElem_toArray, List.getElem_cons_succ, List.getElem_cons_zero, List.setIfInBounds_toArray, List.set_cons_zero, List.set_cons_succ]
          refine wpAny_ready (rs := [12]) (by kernel_rfl) (by simp) ?_
          refine AllReady.cons rfl (fun K hK => ?_) ?_
          · go_simp
            try (refine hK _ _ ?_)
            try (clear hK K)
            refine wpAny_ready (rs := [16]) (by kernel_rfl) (by simp) ?_
            refine AllReady.cons rfl (fun K hK => ?_) ?_
            · go_simp
              try (refine hK _ _ ?_)
              try (clear hK K)
              refine wpAny_take (i := 17) (v := ?v10) rfl (by kernel_rfl) (by kernel_rfl) (by kernel_rfl) (fun _ _ _ h => h) (Or.inl ⟨by rfl, ?hy10⟩) ?rest10
              case hy10 => (intro w; go_simp; try with_reducible rfl)
              try simp only [Act.put, List.getElem_toArray, List.getElem_cons_succ, List.getElem_cons_zero, List.setIfInBounds_toArray, List.set_cons_zero, List.set_cons_succ]
              refine wpAny_take (i := 18) (v := ?v11) rfl (by kernel_rfl) (by kernel_rfl) (by kernel_rfl) (fun _ _ _ h => h) (Or.inl ⟨by rfl, ?hy11⟩) ?rest11
              case hy11 => (intro w; go_simp; try with_reducible rfl)
              try simp only [Act.put, List.getElem_toArray, List.getElem_cons_succ, List.getElem_cons_zero, List.setIfInBounds_toArray, List.set_cons_zero, List.set_cons_succ]
              refine wpAny_take (i := 19) (v := ?v12) rfl (by kernel_rfl) (by kernel_rfl) (by kernel_rfl) (fun _ _ _ h => h) (Or.inl ⟨by rfl, ?hy12⟩) ?rest12
              case hy12 => (intro w; go_simp; try with_reducible rfl)
              try simp only [Act.put, List.getElem_toArray, List.getElem_cons_succ, List.getElem_cons_zero, List.setIfInBounds_toArray, List.set_cons_zero, List.set_cons_succ]
              refine wpAny_take (i := 20) (v := ?v13) rfl (by kernel_rfl) (by kernel_rfl) (by kernel_rfl) (fun _ _ _ h => h) (Or.inl ⟨by rfl, ?hy13⟩) ?rest13
              case hy13 => (intro w; go_simp; try with_reducible rfl)
              try simp only [Act.put, List.getElem_toArray, List.getElem_cons_succ, List.getElem_cons_zero, List.setIfInBounds_toArray, List.set_cons_zero, List.set_cons_succ]
              refine wpAny_done (by kernel_rfl) ?_ _
              refine NoPanic.normal ?_
              go_simp
              go_wp2
              go_ret3
              exact ⟨HR.out.2.drew, g, .slice (some ⟨g9, 0, none⟩) N c9, false, rfl, ⟨(fun h => by cases h), fun hw => absurd (show r = x by rw [HRR.out, HG.out]; exact hw.2.1) k2⟩, (fun h => by cases h), hGlt, _, _, _, rfl⟩
            exact AllReady.nil
          exact AllReady.nil
  · have d1 : decide ((960 : Int) < (N : Int)) = true := decide_eq_true (by omega)
    have K1 := Lib.hid k1
    clear k1
    go_wp2
    go_ret3
    exact ⟨Below.refl _ _, 0, _, false, rfl, ⟨(fun h => by cases h), fun hw => absurd (show N ≤ 960 by rw [HN.out]; exact hw.1) K1.out⟩, (fun h => by cases h), by omega, _, _, _, rfl⟩
end Go.Proofs.Ytgjedofljojioaa
