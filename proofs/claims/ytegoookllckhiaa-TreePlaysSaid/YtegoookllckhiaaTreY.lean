/-
  TreePlays answers true.
  Conditions: the acts and the asked pages are read in memory.
-/
import Derived.Test.YtegoookllckhiaaTreYa
import Derived.Test.YtegoookllckhiaaTreYf
import Derived.Deep.CutRange
import Derived.Deep.CutBlock
import Derived.Test.YtegoookllckhiaaRefE
namespace Go.Proofs.Ytegoookllckhiaa
open Go.RowKit
set_option linter.unusedVariables false
attribute [local irreducible] ps0 badU spanU

set_option maxRecDepth 20000 in
set_option maxHeartbeats 400000 in
theorem treePlays_edge (b : Int) (A A' : Option Addr) (l c l' c' : Nat) (w : World) (h : 60 < l ∨ 60 < l') :
    Calls Try.prog 3 #[.int .u8 b, .slice A l c, .slice A' l' c'] w fun e w' => e = .returned (.bool true) ∧ Below w.heap.size w w' := by
  by_cases h1 : 60 < l
  · have t1 : decide ((60 : Int) < (l : Int)) = true := decide_eq_true (by omega)
    clear h
    go_enter Try.func3, Try.ntmps3
    go_wp2_with fail
    refine (treAnswers_any _).mono ?_
    rintro e w1 ⟨rfl, hb⟩
    go_wp2
    go_ret
    exact ⟨rfl, hb⟩
  · have t1 : decide ((60 : Int) < (l : Int)) = false := decide_eq_false (by omega)
    have t2 : decide ((60 : Int) < (l' : Int)) = true := decide_eq_true (by omega)
    clear h
    go_enter Try.func3, Try.ntmps3
    go_wp2_with fail
    refine (treAnswers_any _).mono ?_
    rintro e w1 ⟨rfl, hb⟩
    go_wp2
    go_ret
    exact ⟨rfl, hb⟩
set_option maxRecDepth 20000 in
set_option maxHeartbeats 6400000 in
theorem treePlays_any (b : Int) (v1 v2 : Value) (la : List Act12) (lb : List Int) (w : World) (hb : 0 ≤ b ∧ b ≤ 255) (h1 : Acts12 w v1 la) (h2 : Its w w.heap.size v2 lb) (hl1 : la.length ≤ 60) (hl2 : lb.length ≤ 60) :
    Calls Try.prog 3 #[.int .u8 b, v1, v2] w fun e w' => e = .returned (.bool true) ∧ Below w.heap.size w w' := by
  obtain ⟨A1, N1, c1, rfl, hN1, -, hz1⟩ := h1
  obtain ⟨A2, N2, c2, rfl, hN2, -, -, hz2⟩ := h2
  obtain ⟨b, rfl⟩ := Int.eq_ofNat_of_zero_le hb.1
  have HZ1 := Lib.hid hz1
  have HZ2 := Lib.hid hz2
  have HN1 := Lib.hid hN1
  have HN2 := Lib.hid hN2
  have hN20 : N1 ≤ 60 := by omega
  have hN21 : N2 ≤ 60 := by omega
  have t1 : decide ((60 : Int) < (N1 : Int)) = false := decide_eq_false (by omega)
  have t2 : decide ((60 : Int) < (N2 : Int)) = false := decide_eq_false (by omega)
  obtain ⟨x, hx⟩ : ∃ x, x = b % 3 := ⟨_, rfl⟩
  have r1 : (b : Int).tmod 3 = (x : Int) := by rw [Int.tmod_eq_emod_of_nonneg (by omega)]; omega
  have r2 : (b : Int) % 3 = (x : Int) := by omega
  have hx3 : x < 3 := by omega
  obtain ⟨m, hm⟩ : ∃ m, m = x + 1 := ⟨_, rfl⟩
  have r3 : (x : Int) + 1 = (m : Int) := by omega
  have hm3 : 1 ≤ m ∧ m ≤ 3 := by omega
  obtain ⟨Z, hZ, hzr⟩ := zero_arr
  obtain ⟨iI, hiI, hiz0, hiz1, hiz2⟩ := info_parts Try.infoIntT
  have HII := Lib.hid hiI
  have HI0 := Lib.hid hiz0
  have HI1 := Lib.hid hiz1
  have HI2 := Lib.hid hiz2
  have HZZ := Lib.hid hZ
  clear hl1 hl2 hN1 hN2 hz1 hz2 hZ hb hx hm hiI hiz0 hiz1 hiz2
  go_enter Try.func3, Try.ntmps3
  go_wp2_with fail
  refine (parts_any m w w (by omega) (Below.refl _ _)).mono ?_
  rintro e w1 ⟨gR, gF, gP, p0, rfl, hp, hon, hb1⟩
  have HN0 := Lib.hid (tv_new hp nobad0 hon (by omega) (hon.first (by omega)))
  clear hp hon hb1
  go_wp2_with fail
  refine HN0.out.mono ?_
  rintro e w2 ⟨gT, p2, rfl, h2⟩
  have H2 := Lib.hid h2
  have FR := Lib.hid (tv_free h2)
  have hnum := h2.tot.num
  obtain ⟨fr, hfr⟩ : ∃ fr, fr = freeU p2.u 32 := ⟨_, rfl⟩
  rw [← hfr] at FR hnum
  replace hnum : fr + 1 = 32 * m := hnum
  obtain ⟨tt, htt⟩ : ∃ tt, tt = 32 * m := ⟨_, rfl⟩
  rw [← htt] at H2
  have f1 : (fr : Int) + 1 = (tt : Int) := by omega
  have htt96 : tt ≤ 96 := by omega
  clear hnum hfr htt h2
  go_wp2_with fail
  refine FR.out.mono ?_
  rintro e w3 ⟨rfl, hb3⟩
  have H3 := Lib.hid (H2.out.fresh hb3)
  clear hb3
  go_wp2_with fail
  have hm4 := H3.out.mid (bel_al (Below.refl w3.heap.size w3) (.cells Z 36))
  rw [show (w3.alloc (.cells Z 36)).heap.size = w3.heap.size + 1 by simp] at hm4
  have HA4 := Lib.hid (ArrE.new HZZ.out w3)
  have H4 := Lib.hid hm4
  have hs3 : w.heap.size ≤ w3.heap.size := H3.out.bel.size
  clear hm4
  have H4A := Lib.hid (show ∃ p s, TreV w (w3.alloc (.cells Z 36)) gT gP p s tt w3.heap.size (w3.heap.size + 1) ∧ ArrE (w3.alloc (.cells Z 36)) w3.heap.size s.e from ⟨_, _, H4.out, HA4.out⟩)
  go_loopg [13] N1 (fun gg s13 wx => ∃ (i : Nat) (p : PS) (s : TS), i + gg = N1 ∧ s13 = .int .i64 (i : Int) ∧ TreV w wx gT gP p s tt w3.heap.size (w3.heap.size + 1) ∧ ArrE wx w3.heap.size s.e)
  case atStart =>
    obtain ⟨p, s, h1, h2⟩ := H4A.out
    exact ⟨0, p, s, by omega, rfl, h1, h2⟩
  case round =>
    obtain ⟨i, p, s, hig, rfl, h5, h6⟩ := hrel
    have T := Lib.hid h5
    have X := Lib.hid h6
    clear h5 h6 H4A H4 HA4 H3 H2
    by_cases hlt : i < N1
    · have t4 : decide ((i : Int) < (N1 : Int)) = true := decide_eq_true (by omega)
      have t5 : (i : Int) < (N1 : Int) := by omega
      have t6 : (0 : Int) ≤ (i : Int) := by omega
      obtain ⟨b1, o1, rfl, hpa⟩ := HZ1.out (by omega)
      obtain ⟨ac, hac⟩ : ∃ ac, la[i]? = some ac := ⟨_, List.getElem?_eq_getElem (by rw [HN1.out]; exact hlt)⟩
      obtain ⟨hbl, c0, c1, c2, c3⟩ := hpa i ac hac
      obtain ⟨pg, kd, nn, on⟩ := ac
      simp only at c0 c1 c2 c3
      have d0 : wr.cell? ⟨b1, o1 + i * 4, none⟩ = some (.int .i64 pg) := (T.out.bel.cell hbl).trans c0
      have d1 : wr.cell? ⟨b1, o1 + i * 4 + 1, none⟩ = some (.int .i64 kd) := (T.out.bel.cell hbl).trans c1
      have d2 : wr.cell? ⟨b1, o1 + i * 4 + 2, none⟩ = some (.int .i64 nn) := (T.out.bel.cell hbl).trans c2
      have d3 : wr.cell? ⟨b1, o1 + i * 4 + 3, none⟩ = some (.bool on) := (T.out.bel.cell hbl).trans c3
      clear c0 c1 c2 c3 hpa hac hbl
      obtain ⟨G, rfl⟩ : ∃ G, G = gk := ⟨_, rfl⟩
      have hb6 := bel_al (Below.refl wr.heap.size wr) (.cells #[.int .i64 pg, .int .i64 kd, .int .i64 nn, .bool on] 38)
      have HB6 := Lib.hid hb6
      have ST := Lib.hid (tv_set2 pg kd nn on T.out hb6)
      have KA := Lib.hid (Blk.new wr 38 #[.int .i64 pg, .int .i64 kd, .int .i64 nn, .bool on])
      clear hb6
      go_wp2_with fail
      refine ST.out.mono ?_
      rintro e w6 ⟨er, p', s', rfl, hs, h6, hmA, hmB, hsz⟩
      have T6 := Lib.hid h6
      have X6 := Lib.hid ((X.out.fresh HB6.out).far (hmA _ (Nat.le_refl _) (by omega)))
      have A6 := Lib.hid (show Blk w6 wr.heap.size 38 #[.int .i64 pg, .int .i64 kd, .int .i64 nn, .bool on] from (hmB _ (Nat.le_refl _) (by simp)).trans KA.out)
      obtain ⟨ga, hga⟩ : ∃ ga, ga = wr.heap.size := ⟨_, rfl⟩
      have hgA : w3.heap.size + 1 ≤ ga := by
        rw [hga]
        obtain ⟨gR, gF, F, bad, K, KT, _, _, _, _, _, _, _, _, _, _, h⟩ := T.out
        exact h
      rw [← hga] at A6
      simp only [← hga]
      clear h6 hmA hmB hsz ST KA HB6 hga
      have HS := Lib.hid hs
      clear hs
      go_upto_block 2 with fail
      go_cut [14] from 52 to 175 (fun s14 wx => s14 = .pointer (some ⟨ga, 0, none⟩) ∧ TreV w wx gT gP p' s' tt w3.heap.size (w3.heap.size + 1) ∧ ArrE wx w3.heap.size s'.e ∧ Blk wx ga 38 #[.int .i64 pg, .int .i64 kd, .int .i64 nn, .bool on] ∧ (er ≠ 4 ∨ er = 4 ∧ (0 ≤ pg ∧ pg ≤ 4095) ∧ (AllN p' → s'.t.length + freeU p'.u 32 < tablesN (pagesOf (s'.e.set pg.toNat ⟨kd, nn, on⟩)))))
      case first =>
        have hs := HS.out
        have a0 : w6.cell? ⟨ga, 0, none⟩ = some (.int .i64 pg) := A6.out.cell 0
        have a1 : w6.cell? ⟨ga, 1, none⟩ = some (.int .i64 kd) := A6.out.cell 1
        have a2 : w6.cell? ⟨ga, 2, none⟩ = some (.int .i64 nn) := A6.out.cell 2
        have a3 : w6.cell? ⟨ga, 3, none⟩ = some (.bool on) := A6.out.cell 3
        rcases hs with ⟨hpg, rfl, rfl, rfl⟩ | ⟨hpg, ⟨hno, rfl, rfl, rfl⟩ | ⟨hyes, rfl, rfl, rfl, hfull⟩ | ⟨hyes, rfl, hse, hlive, hst⟩⟩
        · rcases hpg with hpg | hpg
          · have u1 : decide (pg < 0) = true := decide_eq_true hpg
            go_wp2_with fail
            go_meet
            exact ⟨rfl, T6.out, X6.out, A6.out, Or.inl (by decide)⟩
          · have u1 : decide (pg < 0) = false := decide_eq_false (by omega)
            have u2 : decide (4095 < pg) = true := decide_eq_true hpg
            go_wp2_with fail
            go_meet
            exact ⟨rfl, T6.out, X6.out, A6.out, Or.inl (by decide)⟩
        · have u1 : decide (pg < 0) = false := decide_eq_false (by omega)
          have u2 : decide (4095 < pg) = false := decide_eq_false (by omega)
          have RE := Lib.hid (refEntry_any kd nn on)
          rw [decide_eq_false hno] at RE
          clear hno
          go_wp2_with fail
          refine (RE.out _).mono ?_
          rintro e w7 ⟨rfl, hb7⟩
          have T7 := Lib.hid (T6.out.fresh hb7)
          have X7 := Lib.hid (X6.out.fresh hb7)
          have A7 := Lib.hid (A6.out.below hb7 A6.out.lt)
          clear hb7 a0 a1 a2 a3
          have a0 : w7.cell? ⟨ga, 0, none⟩ = some (.int .i64 pg) := A7.out.cell 0
          have a1 : w7.cell? ⟨ga, 1, none⟩ = some (.int .i64 kd) := A7.out.cell 1
          have a2 : w7.cell? ⟨ga, 2, none⟩ = some (.int .i64 nn) := A7.out.cell 2
          have a3 : w7.cell? ⟨ga, 3, none⟩ = some (.bool on) := A7.out.cell 3
          go_wp2_with fail
          go_meet
          exact ⟨rfl, T7.out, X7.out, A7.out, Or.inl (by decide)⟩
        · have u1 : decide (pg < 0) = false := decide_eq_false (by omega)
          have u2 : decide (4095 < pg) = false := decide_eq_false (by omega)
          have RE := Lib.hid (refEntry_any kd nn on)
          have HFULL := Lib.hid hfull
          rw [decide_eq_true hyes] at RE
          clear hyes hfull
          go_wp2_with fail
          refine (RE.out _).mono ?_
          rintro e w7 ⟨rfl, hb7⟩
          have T7 := Lib.hid (T6.out.fresh hb7)
          have X7 := Lib.hid (X6.out.fresh hb7)
          have A7 := Lib.hid (A6.out.below hb7 A6.out.lt)
          clear hb7 a0 a1 a2 a3
          have a0 : w7.cell? ⟨ga, 0, none⟩ = some (.int .i64 pg) := A7.out.cell 0
          have a1 : w7.cell? ⟨ga, 1, none⟩ = some (.int .i64 kd) := A7.out.cell 1
          have a2 : w7.cell? ⟨ga, 2, none⟩ = some (.int .i64 nn) := A7.out.cell 2
          have a3 : w7.cell? ⟨ga, 3, none⟩ = some (.bool on) := A7.out.cell 3
          go_wp2_with fail
          go_meet
          exact ⟨rfl, T7.out, X7.out, A7.out, by first | exact Or.inr ⟨rfl, hpg, HFULL.out⟩ | exact Or.inr ⟨trivial, hpg, HFULL.out⟩⟩
        · have u1 : decide (pg < 0) = false := decide_eq_false (by omega)
          have u2 : decide (4095 < pg) = false := decide_eq_false (by omega)
          have RE := Lib.hid (refEntry_any kd nn on)
          rw [decide_eq_true hyes] at RE
          have HSE := Lib.hid hse
          have HST := Lib.hid hst
          clear hyes hse hst
          go_wp2_with fail
          refine (RE.out _).mono ?_
          rintro e w7 ⟨rfl, hb7⟩
          have T7 := Lib.hid (T6.out.fresh hb7)
          have X7 := Lib.hid (X6.out.fresh hb7)
          have A7 := Lib.hid (A6.out.below hb7 A6.out.lt)
          clear hb7 a0 a1 a2 a3
          obtain ⟨z, rfl⟩ := Int.eq_ofNat_of_zero_le hpg.1
          have hz4 : z < 4096 := by omega
          have hz0 : (0 : Int) ≤ (z : Int) := by omega
          have hz1 : (z : Int) < 4096 := by omega
          clear hpg
          have a0 : w7.cell? ⟨ga, 0, none⟩ = some (.int .i64 z) := A7.out.cell 0
          have a1 : w7.cell? ⟨ga, 1, none⟩ = some (.int .i64 kd) := A7.out.cell 1
          have a2 : w7.cell? ⟨ga, 2, none⟩ = some (.int .i64 nn) := A7.out.cell 2
          have a3 : w7.cell? ⟨ga, 3, none⟩ = some (.bool on) := A7.out.cell 3
          obtain ⟨q0, q1, q2⟩ := X7.out.at_ hz4
          have y0 := X7.out.frozen (z * 3)
          have y1 := X7.out.frozen (z * 3 + 1)
          have y2 := X7.out.frozen (z * 3 + 2)
          go_wp2_with fail
          go_meet
          refine ⟨rfl, ((T7.out.arr (g := w3.heap.size) (by omega) (by omega) hs3 (z * 3) (.int .i64 kd)).arr (g := w3.heap.size) (by omega) (by omega) hs3 (z * 3 + 1) (.int .i64 nn)).arr (g := w3.heap.size) (by omega) (by omega) hs3 (z * 3 + 2) (.bool on), ?_, ?_, Or.inl (by decide)⟩
          · rw [show s'.e = s.e.set z ⟨kd, nn, on⟩ from HSE.out]
            exact X7.out.set_ ⟨kd, nn, on⟩ hz4
          · exact ((((Only.refl w3.heap.size w7).setCell _ _).setCell _ _).setCell _ _).blk A7.out (by omega)
      case rest =>
        obtain ⟨rfl, hT8, hX8, hA8, hcase⟩ := hcut
        clear HS T6 X6 A6 X T
        have hR : ∀ a' : Act, TrL a' (.pointer (some ⟨gP, 0, none⟩)) (.pointer (some ⟨gT, 0, none⟩)) (.int .i64 tt) (.pointer (some ⟨w3.heap.size, 0, none⟩)) (.pointer (some ⟨ga, 0, none⟩)) (.int .i64 er) → Runs Try.prog cTail12 a' wc (TailT a' w gT gP p' s' tt w3.heap.size) := fun a' ha => by
          rcases hcase with hne | ⟨rfl, hpg, hfull⟩
          · exact tail12_a a' w wc gT gP ga w3.heap.size tt er p' s' ha hT8 hX8 htt96 hne
          · exact tail12_f a' w wc gT gP ga w3.heap.size tt p' s' ha hT8 hX8 htt96 pg kd nn on hA8 hpg hfull
        clear hT8 hX8 hA8 hcase
        rename_i hKK
        refine hKK _ _ ?_
        clear hKK
        refine Runs.wp (c := cTail12) (hR _ ?_) ?_
        · exact ⟨rfl, rfl, rfl, rfl, rfl, rfl, rfl, rfl⟩
        rintro a9 w9 ⟨hk9, hT9, hX9⟩
        obtain ⟨v9, rfl⟩ := hk9.open_
        clear hR hk9
        go_wp2_with fail
        go_roundg (N1 - (i + 1))
        case measure => omega
        case rel => exact ⟨i + 1, p', s', by omega, by go_num, hT9, hX9⟩
    · obtain rfl : i = N1 := by omega
      have t4 : decide ((i : Int) < (i : Int)) = false := decide_eq_false (by omega)
      have t5 : ¬ ((i : Int) < (i : Int)) := by omega
      clear HZ1 HN1
      obtain ⟨W9, rfl⟩ : ∃ W9, W9 = wr := ⟨_, rfl⟩
      obtain ⟨G9, rfl⟩ : ∃ G9, G9 = gk := ⟨_, rfl⟩
      go_wp2_with fail
      go_loopg [20] N2 (fun gg s20 wx => ∃ k : Nat, k + gg = N2 ∧ s20 = .int .i64 (k : Int) ∧ Below W9.heap.size W9 wx)
      case atStart => exact ⟨0, by omega, rfl, Below.refl _ _⟩
      case round =>
        obtain ⟨k, hkg, rfl, hb⟩ := hrel
        have TK := Lib.hid (T.out.fresh hb)
        have XK := Lib.hid (X.out.fresh hb)
        have HB := Lib.hid hb
        by_cases hk : k < N2
        · have q1 : decide ((k : Int) < (N2 : Int)) = true := decide_eq_true (by omega)
          have q2 : (k : Int) < (N2 : Int) := by omega
          have q3 : (0 : Int) ≤ (k : Int) := by omega
          obtain ⟨b9, o9, rfl, hbl9, hce9⟩ := HZ2.out (by omega)
          have hbw : Below w.heap.size w wr := T.out.bel.trans (hb.mono T.out.bel.size)
          obtain ⟨y, hy⟩ : ∃ y, y = lb.getD k 0 := ⟨_, rfl⟩
          have d0 : wr.cell? ⟨b9, o9 + k, none⟩ = some (.int .i64 y) := (hbw.cell hbl9).trans ((hce9 k hk).trans (by rw [hy]))
          have hbl : b9 < wr.heap.size := Nat.lt_of_lt_of_le hbl9 hbw.size
          have KP := Lib.hid (fun (W : World) (hW : Below wr.heap.size wr W) => ((hW.cell (p := ⟨b9, o9 + k, none⟩) hbl).trans d0 : W.cell? ⟨b9, o9 + k, none⟩ = some (.int .i64 y)))
          clear hce9 hy hbw hb
          by_cases y0 : y < 0
          · have u1 : decide (0 ≤ y) = false := decide_eq_false (by omega)
            have GO := Lib.hid (show Calls Try.prog 18 #[.pointer (some ⟨gT, 0, none⟩), .int .i64 y] wr fun e w' => e = .returned (.tuple #[.agg #[.int .i64 0, .int .i64 0, .bool false], .int .i64 1]) ∧ Below wr.heap.size wr w' from tv_get_out y (Or.inl y0) TK.out)
            go_wp2_with fail
            refine GO.out.mono ?_
            rintro e w1 ⟨rfl, hb1⟩
            have hba := bel_al hb1 (.cells #[.int .i64 0, .int .i64 0, .bool false] 35)
            have d1 := KP.out _ hba
            have HB1 := Lib.hid (HB.out.trans (hba.mono HB.out.size))
            clear d0 hb1 hba
            go_wp2_with fail
            go_quiet (fail)
            go_wp2_with fail
            go_roundg (N2 - (k + 1))
            case measure => omega
            case rel => exact ⟨k + 1, by omega, by go_num, below_drewN HB1.out _⟩
          · by_cases y1 : 4095 < y
            · have u1 : decide (0 ≤ y) = true := decide_eq_true (by omega)
              have u2 : decide (y < 4096) = false := decide_eq_false (by omega)
              have GO := Lib.hid (show Calls Try.prog 18 #[.pointer (some ⟨gT, 0, none⟩), .int .i64 y] wr fun e w' => e = .returned (.tuple #[.agg #[.int .i64 0, .int .i64 0, .bool false], .int .i64 1]) ∧ Below wr.heap.size wr w' from tv_get_out y (Or.inr (by omega)) TK.out)
              go_wp2_with fail
              refine GO.out.mono ?_
              rintro e w1 ⟨rfl, hb1⟩
              have hba := bel_al hb1 (.cells #[.int .i64 0, .int .i64 0, .bool false] 35)
              have d1 := KP.out _ hba
              have HB1 := Lib.hid (HB.out.trans (hba.mono HB.out.size))
              clear d0 hb1 hba
              go_wp2_with fail
              go_quiet (fail)
              go_wp2_with fail
              go_roundg (N2 - (k + 1))
              case measure => omega
              case rel => exact ⟨k + 1, by omega, by go_num, below_drewN HB1.out _⟩
            · obtain ⟨q, rfl⟩ := Int.eq_ofNat_of_zero_le (by omega : 0 ≤ y)
              have hq : q < 4096 := by omega
              clear y0 y1
              have u1 : decide (0 ≤ (q : Int)) = true := decide_eq_true (by omega)
              have u2 : decide ((q : Int) < 4096) = true := decide_eq_true (by omega)
              have u3 : (0 : Int) ≤ (q : Int) := by omega
              have u4 : (q : Int) < 4096 := by omega
              have GO0 := Lib.hid (tv_get q hq TK.out)
              have XA := Lib.hid (fun (W : World) (hW : Below wr.heap.size wr W) => (XK.out.fresh hW).at_ hq)
              obtain ⟨en, hen⟩ : ∃ en, en = s.e.getD q en0 := ⟨_, rfl⟩
              rw [← hen] at GO0 XA
              clear hen
              obtain ⟨ek, en, ew⟩ := en
              have GO := Lib.hid (show Calls Try.prog 18 #[.pointer (some ⟨gT, 0, none⟩), .int .i64 (q : Int)] wr fun e w' => e = .returned (.tuple #[.agg #[.int .i64 ek, .int .i64 en, .bool ew], .int .i64 0]) ∧ Below wr.heap.size wr w' from GO0.out)
              go_wp2_with fail
              refine GO.out.mono ?_
              rintro e w1 ⟨rfl, hb1⟩
              have hba := bel_al hb1 (.cells #[.int .i64 ek, .int .i64 en, .bool ew] 35)
              have d1 := KP.out _ hba
              have HB1 := Lib.hid (HB.out.trans (hba.mono HB.out.size))
              obtain ⟨x0, x1, x2⟩ := XA.out _ hba
              clear d0 hb1 hba
              go_wp2_with fail
              go_quiet (fail)
              go_wp2_with fail
              go_roundg (N2 - (k + 1))
              case measure => omega
              case rel => exact ⟨k + 1, by omega, by go_num, below_drewN HB1.out _⟩
        · obtain rfl : k = N2 := by omega
          have q1 : decide ((k : Int) < (k : Int)) = false := decide_eq_false (by omega)
          have q2 : ¬ ((k : Int) < (k : Int)) := by omega
          go_wp2_with fail
          refine (treAnswers_any _).mono ?_
          rintro e w1 ⟨rfl, hb1⟩
          go_wp2
          go_ret
          exact ⟨rfl, T.out.bel.trans ((HB.out.trans (hb1.mono HB.out.size)).mono T.out.bel.size)⟩
end Go.Proofs.Ytegoookllckhiaa
