/-
  SlotBounds answers true for any number and any gen, and writes nothing that was there.
  Conditions: none beside the kinds' own ranges.
-/
import Derived.Test.YtgjedofljojioaaSlotH
import Derived.Test.YtgjedofljojioaaRefA
namespace Go.Proofs.Ytgjedofljojioaa
open Go.RowKit
set_option linter.unusedVariables false

/-- The first k bytes. -/
def upL (k : Nat) : List Nat := (List.range k).map (fun i => (i + 1) % 256)
theorem upL_length (k : Nat) : (upL k).length = k := by simp [upL]
theorem upL_succ (k : Nat) : upL (k + 1) = upL k ++ [(k + 1) % 256] := by simp [upL, List.range_succ]
theorem upL_byte (k : Nat) : ∀ y ∈ upL k, y < 256 := by
  intro y hy
  simp only [upL, List.mem_map] at hy
  obtain ⟨i, _, rfl⟩ := hy
  omega
/-- What holds ahead of round k. -/
def BndAt (w2 : World) (g m k : Nat) (wx : World) : Prop := Blk wx g 5 (cellsL (zn (upL k) (m - k))) ∧ Only g w2 wx

set_option maxRecDepth 20000 in
set_option maxHeartbeats 1600000 in
theorem slotBounds_any (p g : Nat) (w : World) (hp : p < 65536) (hg : g < 4294967296) :
    Calls Try.prog 7 #[.int .u16 (p : Int), .int .u32 (g : Int)] w fun e w' => e = .returned (.bool true) ∧ Below w.heap.size w w' := by
  obtain ⟨m, hm, hm2⟩ : ∃ m : Nat, (p : Int) % 1100 = (m : Int) ∧ m < 1100 := ⟨p % 1100, by omega, by omega⟩
  have hmk := make_zs m (by omega)
  clear hp
  go_enter Try.func7, Try.ntmps7
  go_wp2_with fail
  refine (dnew_any 192 192 w (by unfold NearD; omega)).mono ?_
  rintro e w1 ⟨rfl, hd1, hb1, hz1⟩
  have HD1 := Lib.hid hd1
  have HN1 := Lib.hid hb1
  have HZ1 := Lib.hid hz1
  have HS1 := Lib.hid (show BndAt (w1.alloc (.cells (zs m) 5)) w1.heap.size m 0 (w1.alloc (.cells (zs m) 5)) from ⟨by rw [Nat.sub_zero, show upL 0 = [] from rfl, ← zs_cells]; exact Blk.new w1 _ _, Only.refl _ _⟩)
  clear hd1 hb1 hz1
  go_wp2_with fail
  go_loopw [7] (fun i wr => ∃ k : Nat, k ≤ m ∧ i = .int .i64 (k : Int) ∧ BndAt (w1.alloc (.cells (zs m) 5)) w1.heap.size m k wr) (fun i _ => m - (intOf i).toNat)
  case atStart => exact ⟨0, Nat.zero_le _, rfl, HS1.out⟩
  case round =>
    obtain ⟨k, hk, rfl, hr⟩ := hrel
    by_cases hlt : k < m
    · have hsz : k < (cellsL (zn (upL k) (m - k))).size := by rw [cellsL_size]; simp [zn, upL_length]; omega
      have hcell : wr.cell? ⟨w1.heap.size, k, none⟩ = some ((cellsL (zn (upL k) (m - k)))[k]'hsz) := by
        rw [hr.1.cell]
        exact Array.getElem?_eq_getElem hsz
      have hfz : wr.frozen? ⟨w1.heap.size, k, none⟩ = false := hr.1.frozen _
      have HX := Lib.hid (show BndAt (w1.alloc (.cells (zs m) 5)) w1.heap.size m (k + 1) (wr.setCell ⟨w1.heap.size, k, none⟩ (bv ((k + 1) % 256))) from by
        refine ⟨?_, hr.2.setCell _ _⟩
        have h := hr.1.set_ k (bv ((k + 1) % 256))
        rw [set_next _ k _ _ (upL_length k) (by omega), ← upL_succ, Nat.sub_sub] at h
        exact h)
      have hb8 : (.int .u8 (((k : Int) + 1) % 256) : Value) = bv ((k + 1) % 256) := by unfold bv; congr 1
      have HB8 := Lib.hid hb8
      obtain ⟨old, hold⟩ : ∃ old, old = (cellsL (zn (upL k) (m - k)))[k]'hsz := ⟨_, rfl⟩
      rw [← hold] at hcell
      clear hb8 hold hr hsz
      go_wp2
      go_roundw
      case rel => exact ⟨k + 1, by omega, by go_num, by rw [HB8.out]; exact HX.out⟩
      case measure => simp [intOf]; omega
    · obtain rfl : k = m := by omega
      have BK := Lib.hid (show Blk wr w1.heap.size 5 ((upL k).map bv).toArray from by
        have h := hr.1
        rw [Nat.sub_self] at h
        unfold cellsL zn at h
        rw [List.replicate_zero, List.append_nil] at h
        exact h)
      have K1 := Lib.hid (show Below w1.heap.size w1 wr from ((Below.refl _ _).alloc (Nat.le_refl _) _).trans (hr.2.below (Nat.le_refl _) (by simp)))
      have HD2 := Lib.hid (HD1.out.fresh K1.out)
      have HN2 := Lib.hid (HN1.out.trans (K1.out.mono HN1.out.size))
      have HB2 := Lib.hid (Bts.of_whole BK.out (upL_length k) (by unfold maxLen; omega) (upL_byte k))
      have HX2 := Lib.hid (show Stay (w.heap.size + 2) w.heap.size (w.heap.size + 1) wr (.slice (some ⟨w1.heap.size, 0, none⟩) k k) (upL k) from Stay.of_ne HB2.out (Nat.le_refl _) (by have := HZ1.out; rintro (e | e | e) <;> omega))
      clear hr
      by_cases c1 : 960 < k
      · have t1 : decide ((960 : Int) < (k : Int)) = true := decide_eq_true (by omega)
        go_wp2_with fail
        refine (save_long _ _ _ _ _ _ c1).mono ?_
        rintro e w3 ⟨rfl, rfl⟩
        go_wp2_with fail
        refine (load_ok _ _ _ _ _ _ _ HD2.out (by omega)).mono ?_
        rintro e w3 ⟨v, rfl, ho, hd3, ht3⟩
        have hl : loadR (last (fun _ => zer) (fun _ => none)) = (0, []) := load_none (zer_whole _) (zer_whole _)
        rw [hl] at ho ⊢
        have HD3 := Lib.hid hd3
        have HN3 := Lib.hid (ht3.fresh_ HN2.out (Nat.le_refl _) (by omega) (Nat.le_refl _) (by omega))
        obtain ⟨A3, c3, rfl⟩ := own_any ho
        clear hl ho hd3 ht3
        go_wp2_with fail
        refine (slotAnswers_any _).mono ?_
        rintro e w4 ⟨rfl, hb4⟩
        have HD4 := Lib.hid (HD3.out.fresh hb4)
        have HN4 := Lib.hid (HN3.out.trans (hb4.mono HN3.out.size))
        clear hb4
        go_wp2_with fail
        refine (dloose_any _ _ _ _ _ _ _ _ HD4.out).mono ?_
        rintro e w5 ⟨v5, rfl, ho5, hb5, _⟩
        rw [keysL_none] at ho5
        obtain ⟨A5, c5, rfl⟩ := own_any ho5
        have HN5 := Lib.hid (HN4.out.trans (hb5.mono HN4.out.size))
        clear ho5 hb5
        go_wp2
        go_ret
        exact ⟨by simp, HN5.out⟩
      · have t1 : decide ((960 : Int) < (k : Int)) = false := decide_eq_false (by omega)
        go_wp2_with fail
        refine (save_ok _ _ _ _ _ _ g _ (upL k) _ HD2.out (by omega) HX2.out (by rw [upL_length]; omega) hg).mono ?_
        rintro e w3 ⟨rfl, hd3, ht3⟩
        have HD3 := Lib.hid hd3
        have HN3 := Lib.hid (ht3.fresh_ HN2.out (Nat.le_refl _) (by omega) (Nat.le_refl _) (by omega))
        have HX3 := Lib.hid (HX2.out.turns ht3)
        clear hd3 ht3
        go_wp2_with fail
        refine (load_ok _ _ _ _ _ _ _ HD3.out (by omega)).mono ?_
        rintro e w4 ⟨v, rfl, ho, hd4, ht4⟩
        have hl : loadR (last (savL (last (fun _ => zer) (fun _ => none)) g (upL k)) (fun _ => none)) = (g, upL k) := load_sav (F := fun _ => zer) hg (by rw [upL_length]; omega) (fun h => absurd h (zer_whole _))
        rw [hl] at ho ⊢
        have HD4 := Lib.hid hd4
        have HN4 := Lib.hid (ht4.fresh_ HN3.out (Nat.le_refl _) (by omega) (Nat.le_refl _) (by omega))
        have HX4 := Lib.hid (HX3.out.turns ht4)
        obtain ⟨A4, c4, rfl⟩ := own_any ho
        have HO4 := Lib.hid ho
        clear hl ho hd4 ht4
        go_wp2_with fail
        refine (slotAnswers_any _).mono ?_
        rintro e w5 ⟨rfl, hb5⟩
        have HD5 := Lib.hid (HD4.out.fresh hb5)
        have HN5 := Lib.hid (HN4.out.trans (hb5.mono HN4.out.size))
        obtain ⟨B4, hx4, hB4⟩ := HX4.out.here
        have Y5 := Lib.hid (hx4.below (hb5.mono hB4))
        have V5 := Lib.hid ((Bts.of_own HO4.out (upL_byte k)).below hb5)
        clear hb5 hx4 hB4
        go_wp2_with fail
        refine (same_any _ _ _ _ _ _ _ V5.out Y5.out).mono ?_
        rintro e w6 ⟨rfl, q, rfl⟩
        rw [decide_eq_true rfl]
        have HD6 := Lib.hid (HD5.out.fresh (below_drewN (Below.refl _ w5) q))
        have HN6 := Lib.hid (below_drewN HN5.out q)
        go_wp2_with fail
        refine (dloose_any _ _ _ _ _ _ _ _ HD6.out).mono ?_
        rintro e w7 ⟨v7, rfl, ho7, hb7, _⟩
        rw [keysL_none] at ho7
        obtain ⟨A7, c7, rfl⟩ := own_any ho7
        have HN7 := Lib.hid (HN6.out.trans (hb7.mono HN6.out.size))
        clear ho7 hb7
        go_wp2
        go_ret
        exact ⟨by simp, HN7.out⟩
end Go.Proofs.Ytgjedofljojioaa
