/-
  FileApart answers true for any number.
  Conditions: none beside the contracts of files and of the disk.
-/
import Derived.Test.YtggidgfmkidkjaaFilP
import Derived.Test.YtggidgfmkidkjaaDcr
namespace Go.Proofs.Ytggidgfmkidkjaa
open Go.RowKit
set_option linter.unusedVariables false

/-- What is loose behind m pages and k slots. -/
def apL (m k : Nat) : Nat → Option (List Nat) := fun j => if 96 ≤ j ∧ j < 96 + m then some (sec2 ((j - 96) / 16 + 1) ((j - 96) % 16)) else if 160 ≤ j ∧ j < 160 + k then some (sec2 99 (j - 160)) else none
theorem apL_zero : apL 0 0 = fun _ => none := by
  funext j
  unfold apL
  rw [if_neg (by omega), if_neg (by omega)]
theorem apL_page {m : Nat} (f g : Nat) (hm : m = 16 * f + g) (hg : g < 16) (hf : f < 4) : upd (apL m 0) (96 + m) (some (sec2 (f + 1) g)) = apL (m + 1) 0 := by
  funext j
  by_cases h : j = 96 + m
  · subst h
    rw [upd_same]
    unfold apL
    rw [if_pos (by omega), show 96 + m - 96 = m by omega, show m / 16 = f by omega, show m % 16 = g by omega]
  · rw [upd_other _ _ _ h]
    unfold apL
    by_cases c : 96 ≤ j ∧ j < 96 + m
    · rw [if_pos c, if_pos (by omega)]
    · rw [if_neg c, if_neg (by omega : ¬ (160 ≤ j ∧ j < 160 + 0)), if_neg (by omega : ¬ (96 ≤ j ∧ j < 96 + (m + 1)))]
theorem apL_slot {k : Nat} (hk : k < 32) : upd (apL 64 k) (160 + k) (some (sec2 99 k)) = apL 64 (k + 1) := by
  funext j
  by_cases h : j = 160 + k
  · subst h
    rw [upd_same]
    unfold apL
    rw [if_neg (by omega), if_pos (by omega), show 160 + k - 160 = k by omega]
  · rw [upd_other _ _ _ h]
    unfold apL
    by_cases c : 96 ≤ j ∧ j < 96 + 64
    · rw [if_pos c, if_pos c]
    · rw [if_neg c, if_neg c]
      by_cases c2 : 160 ≤ j ∧ j < 160 + k
      · rw [if_pos c2, if_pos (by omega)]
      · rw [if_neg c2, if_neg (by omega)]
theorem apL_atp {f g : Nat} (hf : f < 4) (hg : g < 16) : last (fun _ => zer) (apL 64 32) (96 + 16 * f + g) = sec2 (f + 1) g := by
  unfold last apL
  rw [if_pos (by omega), show (96 + 16 * f + g - 96) / 16 = f by omega, show (96 + 16 * f + g - 96) % 16 = g by omega]
  rfl
theorem apL_ats {k : Nat} (hk : k < 32) : last (fun _ => zer) (apL 64 32) (160 + k) = sec2 99 k := by
  unfold last apL
  rw [if_neg (by omega), if_pos (by omega), show 160 + k - 160 = k by omega]
  rfl
theorem apL_keys : keysL 192 (apL 64 32) = (List.range 192).filter (fun j => decide (96 ≤ j)) := by
  unfold keysL
  apply List.filter_congr
  intro j hj
  have hj := List.mem_range.1 hj
  unfold apL
  by_cases c : 96 ≤ j ∧ j < 96 + 64
  · rw [if_pos c, decide_eq_true c.1]; rfl
  · rw [if_neg c]
    by_cases c2 : 160 ≤ j ∧ j < 160 + 32
    · rw [if_pos c2, decide_eq_true (by omega)]; rfl
    · rw [if_neg c2, decide_eq_false (by omega)]; rfl
theorem apL_96 : (keysL 192 (apL 64 32)).length = 96 ∧ (keysL 192 (apL 64 32)).getD 0 0 = 96 := by
  rw [apL_keys]
  decide +kernel
/-- What holds while they are written. -/
def ApAt (w : World) (gB m k : Nat) (wx : World) : Prop := FD w wx (w.heap.size + 2) w.heap.size (w.heap.size + 1) (fun _ => zer) (apL m k) Tr.none_ ∧ ∃ x y, x < 256 ∧ y < 256 ∧ Blk wx gB 5 ((sec2 x y).map bv).toArray
theorem ApAt.two {w wx : World} {gB m k : Nat} (h : ApAt w gB m k wx) (hg : w.heap.size + 3 ≤ gB) {a b : Nat} (ha : a < 256) (hb : b < 256) :
    ∃ W, W = (wx.setCell ⟨gB, 0, none⟩ (.int .u8 (a : Int))).setCell ⟨gB, 1, none⟩ (.int .u8 (b : Int)) ∧ FD w W (w.heap.size + 2) w.heap.size (w.heap.size + 1) (fun _ => zer) (apL m k) Tr.none_ ∧ Blk W gB 5 ((sec2 a b).map bv).toArray := by
  obtain ⟨h1, x, y, hx, hy, h2⟩ := h
  have ho := ((Only.refl gB wx).setCell 0 (.int .u8 (a : Int))).setCell 1 (.int .u8 (b : Int))
  refine ⟨_, rfl, h1.far ho (.inr ⟨by omega, by omega, by omega⟩) (by omega), ?_⟩
  have h3 := (h2.set_ 0 (bv a)).set_ 1 (bv b)
  rw [sec2_set0, sec2_set1] at h3
  exact h3

set_option maxRecDepth 20000 in
set_option maxHeartbeats 3200000 in
theorem fileApart_any (n : Nat) (w : World) (hn : n < 65536) :
    Calls Try.prog 5 #[.int .u16 n] w fun e w' => e = .returned (.bool true) ∧ Below w.heap.size w w' := by
  obtain ⟨x, hx⟩ : ∃ x, x = n % 4 := ⟨_, rfl⟩
  obtain ⟨q, hq⟩ : ∃ q, q = n / 4 := ⟨_, rfl⟩
  obtain ⟨y, hy⟩ : ∃ y, y = q % 16 := ⟨_, rfl⟩
  obtain ⟨p, hp⟩ : ∃ p, p = n / 64 := ⟨_, rfl⟩
  obtain ⟨z, hz⟩ : ∃ z, z = p % 32 := ⟨_, rfl⟩
  have r1 : (n : Int).tmod 4 = (x : Int) := by rw [Int.tmod_eq_emod_of_nonneg (by omega)]; omega
  have r1' : (n : Int) % 4 = (x : Int) := by omega
  have r2 : (n : Int).tdiv 4 = (q : Int) := by rw [Int.tdiv_eq_ediv_of_nonneg (by omega)]; omega
  have r2' : (n : Int) / 4 = (q : Int) := by omega
  have r3 : (q : Int).tmod 16 = (y : Int) := by rw [Int.tmod_eq_emod_of_nonneg (by omega)]; omega
  have r3' : (q : Int) % 16 = (y : Int) := by omega
  have r4 : (n : Int).tdiv 64 = (p : Int) := by rw [Int.tdiv_eq_ediv_of_nonneg (by omega)]; omega
  have r4' : (n : Int) / 64 = (p : Int) := by omega
  have r5 : (p : Int).tmod 32 = (z : Int) := by rw [Int.tmod_eq_emod_of_nonneg (by omega)]; omega
  have r5' : (p : Int) % 32 = (z : Int) := by omega
  have hx4 : x < 4 := by omega
  have hy4 : y < 16 := by omega
  have hz4 : z < 32 := by omega
  have hq4 : q < 16384 := by omega
  have hp4 : p < 1024 := by omega
  have HP := Lib.hid (show PageAt (x : Int) (y : Int) (96 + 16 * x + y) from ⟨by omega, by omega⟩)
  have HQ := Lib.hid (show SlotAt (z : Int) (160 + z) from ⟨by omega, by omega⟩)
  clear hx hq hy hp hz
  go_enter Try.func5, Try.ntmps5
  go_wp2_with fail
  refine (dnew_any 192 192 w (by unfold NearD; omega)).mono ?_
  rintro e w1 ⟨rfl, hd1, hb1, hz1⟩
  have F1 := Lib.hid (FD.new hd1 hb1)
  have hmk := make64
  have HS := Lib.hid (show ApAt w w1.heap.size 0 0 (w1.alloc (.cells (zs 64) 5)) from ⟨by
    rw [apL_zero]
    exact F1.out.fresh ((Below.refl _ _).alloc (Nat.le_refl _) _), 0, 0, by omega, by omega, by
    rw [← sec2_zs]
    exact Blk.new w1 _ _⟩)
  have hgB : w.heap.size + 3 ≤ w1.heap.size := by omega
  obtain ⟨gB, hgb⟩ : ∃ gB, gB = w1.heap.size := ⟨_, rfl⟩
  clear hd1 hb1 hz1
  go_wp2_with fail
  clear hmk
  rw [← hgb] at HS hgB ⊢
  clear hgb
  go_loopg [5, 6] 4 (fun gg s5 s6 wx => ∃ i : Nat, i + gg = 4 ∧ s5 = .int .i64 (i : Int) ∧ ApAt w gB (16 * i) 0 wx)
  case atStart => exact ⟨0, by omega, rfl, HS.out⟩
  case round =>
    obtain ⟨i, hig, rfl, h0⟩ := hrel
    have H0 := Lib.hid h0
    clear h0 HS
    obtain ⟨G, rfl⟩ : ∃ G, G = gk := ⟨_, rfl⟩
    by_cases hi : i < 4
    · have u1 : decide ((i : Int) < 4) = true := decide_eq_true (by omega)
      obtain ⟨i1, hi1⟩ : ∃ i1, i1 = i + 1 := ⟨_, rfl⟩
      have u2 : (i : Int) + 1 = (i1 : Int) := by omega
      have u3 : IntKind.u8.wrap (i1 : Int) = (i1 : Int) := by rw [IntKind.wrap_u8]; omega
      have hi4 : i1 < 5 := by omega
      have HI1 := Lib.hid hi1
      clear hi1
      go_wp2_with fail
      go_loopg [6] 16 (fun gg s6 wx => ∃ j : Nat, j + gg = 16 ∧ s6 = .int .i64 (j : Int) ∧ ApAt w gB (16 * i + j) 0 wx)
      case atStart => exact ⟨0, by omega, rfl, H0.out⟩
      case round =>
        obtain ⟨j, hjg, rfl, h1⟩ := hrel
        have H1 := Lib.hid h1
        clear h1
        by_cases hj : j < 16
        · have v1 : decide ((j : Int) < 16) = true := decide_eq_true (by omega)
          have v2 : IntKind.u8.wrap (j : Int) = (j : Int) := by rw [IntKind.wrap_u8]; omega
          obtain ⟨-, x0, y0, hx0, hy0, hbb⟩ := H1.out
          have a0 : wr.cell? ⟨gB, 0, none⟩ = some (bv x0) := by rw [hbb.cell]; rfl
          have a1 : wr.cell? ⟨gB, 1, none⟩ = some (bv y0) := by rw [hbb.cell]; rfl
          have f0 := hbb.frozen 0
          have f1 := hbb.frozen 1
          clear hbb hx0 hy0
          obtain ⟨W, hW, hF, hB⟩ := H1.out.two hgB (a := i1) (b := j) (by omega) (by omega)
          have FW := Lib.hid hF
          have BW := Lib.hid hB
          have WR := Lib.hid (FW.out.write (f := (i : Int)) (g := (j : Int)) (p := 96 + (16 * i + j)) ⟨by omega, by omega⟩ BW.out (by omega) (sec2_length _ _) (sec2_byte (by omega) (by omega)))
          have ep : upd (apL (16 * i + j) 0) (96 + (16 * i + j)) (some (sec2 i1 j)) = apL (16 * i + j + 1) 0 := by rw [HI1.out]; exact apL_page i j rfl hj hi
          rw [ep] at WR
          have HW := Lib.hid hW
          clear hF hB hW
          go_wp2_with fail
          rw [← HW.out]
          refine WR.out.mono ?_
          rintro e w4 ⟨rfl, hf4, ht4⟩
          have F4 := Lib.hid (show ApAt w gB (16 * i + (j + 1)) 0 w4 from ⟨hf4, i1, j, by omega, by omega, FW.out.keep ht4 BW.out (by omega)⟩)
          clear hf4 ht4
          go_wp2_with fail
          go_roundg (16 - (j + 1))
          case measure => omega
          case rel => exact ⟨j + 1, by omega, by go_num, F4.out⟩
        · obtain rfl : j = 16 := by omega
          go_wp2_with fail
          go_roundg (4 - (i + 1))
          case measure => omega
          case rel => exact ⟨i + 1, by omega, by go_num, by rw [show 16 * (i + 1) = 16 * i + 16 by omega]; exact H1.out⟩
    · obtain rfl : i = 4 := by omega
      have HZ := Lib.hid (show ApAt w gB 64 0 wr from H0.out)
      clear H0
      go_wp2_with fail
      go_loopg [7] 32 (fun gg s7 wx => ∃ k : Nat, k + gg = 32 ∧ s7 = .int .i64 (k : Int) ∧ ApAt w gB 64 k wx)
      case atStart => exact ⟨0, by omega, rfl, HZ.out⟩
      case round =>
        obtain ⟨k, hkg, rfl, h1⟩ := hrel
        have H1 := Lib.hid h1
        clear h1 HZ
        by_cases hk : k < 32
        · have v1 : decide ((k : Int) < 32) = true := decide_eq_true (by omega)
          have v2 : IntKind.u8.wrap (k : Int) = (k : Int) := by rw [IntKind.wrap_u8]; omega
          obtain ⟨-, x0, y0, hx0, hy0, hbb⟩ := H1.out
          have a0 : wr.cell? ⟨gB, 0, none⟩ = some (bv x0) := by rw [hbb.cell]; rfl
          have a1 : wr.cell? ⟨gB, 1, none⟩ = some (bv y0) := by rw [hbb.cell]; rfl
          have f0 := hbb.frozen 0
          have f1 := hbb.frozen 1
          clear hbb hx0 hy0
          obtain ⟨W, hW, hF, hB⟩ := H1.out.two hgB (a := 99) (b := k) (by omega) (by omega)
          have FW := Lib.hid hF
          have BW := Lib.hid hB
          have WR := Lib.hid (FW.out.wslot (s := (k : Int)) (p := 160 + k) ⟨by omega, by omega⟩ BW.out (by omega) (sec2_length _ _) (sec2_byte (by omega) (by omega)))
          rw [apL_slot hk] at WR
          have HW := Lib.hid (show (wr.setCell ⟨gB, 0, none⟩ (.int .u8 99)).setCell ⟨gB, 1, none⟩ (.int .u8 (k : Int)) = W from hW.symm)
          clear hF hB hW
          go_wp2_with fail
          rw [HW.out]
          refine WR.out.mono ?_
          rintro e w4 ⟨rfl, hf4, ht4⟩
          have F4 := Lib.hid (show ApAt w gB 64 (k + 1) w4 from ⟨hf4, 99, k, by omega, by omega, FW.out.keep ht4 BW.out (by omega)⟩)
          clear hf4 ht4
          go_wp2_with fail
          go_roundg (32 - (k + 1))
          case measure => omega
          case rel => exact ⟨k + 1, by omega, by go_num, F4.out⟩
        · obtain rfl : k = 32 := by omega
          have F9 := Lib.hid H1.out.1
          clear H1
          go_wp2_with fail
          refine (F9.out.readV HP.out).mono ?_
          rintro e wa ⟨gX, rfl, hgX, hbX, hfa, hta⟩
          rw [apL_atp hx4 hy4] at hbX
          have FA := Lib.hid hfa
          have BX := Lib.hid hbX
          have hX : gX ≠ w.heap.size + 2 ∧ gX ≠ w.heap.size ∧ gX ≠ w.heap.size + 1 := by have := F9.out.d.lt; omega
          clear hfa hta hbX hgX
          go_wp2_with fail
          refine (FA.out.slotV HQ.out).mono ?_
          rintro e wb ⟨gY, rfl, hgY, hbY, hfb, htb⟩
          rw [apL_ats hz4] at hbY
          have FB := Lib.hid hfb
          have BY := Lib.hid hbY
          have BX2 := Lib.hid (FA.out.keep htb BX.out hX)
          clear hfb htb hbY hgY
          go_wp2_with fail
          refine (dloose_any _ _ _ _ _ _ _ _ FB.out.d).mono ?_
          rintro e wc ⟨v, rfl, hrow, hbc, -⟩
          obtain ⟨k1, k2⟩ := apL_96
          have FC := Lib.hid (FB.out.fresh hbc)
          have BX3 := Lib.hid (BX2.out.below hbc BX2.out.lt)
          have BY3 := Lib.hid (BY.out.below hbc BY.out.lt)
          obtain ⟨gL, cL, hvL⟩ := own_shape hrow (by rw [k1]; omega)
          rw [k1] at hvL
          subst hvL
          have hLb : gL < wc.heap.size := (hrow.lt gL rfl).2
          have hL0 : wc.cell? ⟨gL, 0, none⟩ = some (.int .i64 96) := by
            have h9 := hrow.cells (g := gL) rfl 0 (.int .i64 96) (by
              rw [List.getElem?_map, List.getElem?_eq_getElem (by rw [k1]; omega)]
              rw [List.getD_eq_getElem?_getD, List.getElem?_eq_getElem (by rw [k1]; omega)] at k2
              simp only [Option.getD_some] at k2
              rw [Option.map_some, k2]
              rfl)
            rw [Addr.add_lit] at h9
            exact h9
          have HL0 := Lib.hid hL0
          clear hbc hrow k1 k2 hL0
          obtain ⟨x1, hx1⟩ : ∃ x1, x1 = x + 1 := ⟨_, rfl⟩
          have s1 : (x : Int) + 1 = (x1 : Int) := by omega
          have s2 : IntKind.u8.wrap (x1 : Int) = (x1 : Int) := by rw [IntKind.wrap_u8]; omega
          have s3 : IntKind.u8.wrap (y : Int) = (y : Int) := by rw [IntKind.wrap_u8]; omega
          have s4 : IntKind.u8.wrap (z : Int) = (z : Int) := by rw [IntKind.wrap_u8]; omega
          rw [← hx1] at BX3
          clear hx1
          go_wp2_with fail
          refine (filAnswers_any _).mono ?_
          rintro e wd ⟨rfl, hbd⟩
          have FD9 := Lib.hid (FC.out.fresh hbd)
          have e0 : wd.cell? ⟨gX, 0, none⟩ = some (.int .u8 (x1 : Int)) := by rw [(BX3.out.below hbd BX3.out.lt).cell]; rfl
          have e1 : wd.cell? ⟨gX, 1, none⟩ = some (.int .u8 (y : Int)) := by rw [(BX3.out.below hbd BX3.out.lt).cell]; rfl
          have e2 : wd.cell? ⟨gY, 0, none⟩ = some (.int .u8 99) := by rw [(BY3.out.below hbd BY3.out.lt).cell]; rfl
          have e3 : wd.cell? ⟨gY, 1, none⟩ = some (.int .u8 (z : Int)) := by rw [(BY3.out.below hbd BY3.out.lt).cell]; rfl
          have e4 : wd.cell? ⟨gL, 0, none⟩ = some (.int .i64 96) := (hbd.cell (p := ⟨gL, 0, none⟩) hLb).trans HL0.out
          clear hbd
          go_wp2
          go_ret
          exact ⟨rfl, FD9.out.bel⟩
end Go.Proofs.Ytggidgfmkidkjaa
