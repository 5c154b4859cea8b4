/-
  A round's tail in TreePlays, where Set answered that there is no room.
  Conditions: none beside those that each line bears.
-/
import Derived.Test.YtegoookllckhiaaTreC
import Derived.Test.YtegoookllckhiaaRefE
import Derived.Deep.CutRange
import Derived.Deep.CutBlock
namespace Go.Proofs.Ytegoookllckhiaa
open Go.RowKit
set_option linter.unusedVariables false
attribute [local irreducible] ps0 badU spanU

set_option maxRecDepth 100000 in
set_option maxHeartbeats 6400000 in
theorem tail12_f (a : Act) (w0 W8 : World) (gT gP ga g3 tt : Nat) (p' : PS) (s' : TS)
    (h : TrL a (.pointer (some ⟨gP, 0, none⟩)) (.pointer (some ⟨gT, 0, none⟩)) (.int .i64 tt) (.pointer (some ⟨g3, 0, none⟩)) (.pointer (some ⟨ga, 0, none⟩)) (.int .i64 4))
    (hT : TreV w0 W8 gT gP p' s' tt g3 (g3 + 1)) (hX : ArrE W8 g3 s'.e) (htt96 : tt ≤ 96) (pg kd nn : Int) (on : Bool) (hA : Blk W8 ga 38 #[.int .i64 pg, .int .i64 kd, .int .i64 nn, .bool on]) (hpg : 0 ≤ pg ∧ pg ≤ 4095) (hfull : AllN p' → s'.t.length + freeU p'.u 32 < tablesN (pagesOf (s'.e.set pg.toNat ⟨kd, nn, on⟩))) :
    Runs Try.prog cTail12 a W8 (TailT a w0 gT gP p' s' tt g3) := by
  obtain ⟨u, rfl⟩ := h.open_
  obtain ⟨iI, hiI, hiz0, hiz1, hiz2⟩ := info_parts Try.infoIntT
  have HII := Lib.hid hiI
  have HI0 := Lib.hid hiz0
  have HI1 := Lib.hid hiz1
  have HI2 := Lib.hid hiz2
  have T8 := Lib.hid hT
  have X8 := Lib.hid hX
  have A8 := Lib.hid hA
  have HFULL := Lib.hid hfull
  clear hA hfull
  clear hT hX hiI hiz0 hiz1 hiz2 h
  unfold Runs
  conv => arg 2; whnf
  go_wp2_with fail
  go_loopg [16, 17] 4096 (fun gg s16 s17 wx => ∃ k : Nat, k + gg = 4096 ∧ s17 = .int .i64 (k : Int) ∧ ownR wx W8.heap.size s16 (asI (pagesU s'.e k)) ∧ Below W8.heap.size W8 wx)
  case atStart => exact ⟨0, by omega, rfl, World.ownsRow_nil _ _ _ _, Below.refl _ _⟩
  case round =>
    obtain ⟨k, hkg, rfl, hrow, hb⟩ := hrel
    have HX := Lib.hid hb
    have HITS := Lib.hid (Its.of_own hrow)
    have HROW := Lib.hid hrow
    obtain ⟨A5, N5, c5, rfl, hN5, -⟩ := Its.of_own hrow
    have HN5 := Lib.hid hN5
    clear hrow hb hN5
    by_cases hk : k < 4096
    · have v1 : decide ((k : Int) < 4096) = true := decide_eq_true (by omega)
      have v2 : (k : Int) < 4096 := by omega
      have v3 : (0 : Int) ≤ (k : Int) := by omega
      have q0 := ((X8.out.fresh HX.out).at_ hk).1
      obtain ⟨D, hD⟩ : ∃ D, D = pagesU s'.e k := ⟨_, rfl⟩
      have hDl : D.length ≤ k := hD ▸ pagesU_le _ _
      have TKY := Lib.hid (fun (h : (s'.e.getD k en0).k ≠ 0) => pagesU_yes h)
      have TKN := Lib.hid (fun (h : (s'.e.getD k en0).k = 0) => pagesU_no h)
      rw [← hD] at TKY TKN HROW HITS HN5
      obtain ⟨kk, hkk⟩ : ∃ kk, kk = (s'.e.getD k en0).k := ⟨_, rfl⟩
      rw [← hkk] at q0 TKY TKN
      clear hD hkk
      by_cases hz : kk = 0
      · have TK := Lib.hid (TKN.out hz)
        subst hz
        clear TKY TKN
        go_wp2_with fail
        go_roundg (4096 - (k + 1))
        case measure => omega
        case rel => exact ⟨k + 1, by omega, by go_num, by rw [TK.out]; exact HROW.out, HX.out⟩
      · have TK := Lib.hid (TKY.out hz)
        have z2 : (kk == 0) = false := by simpa using hz
        clear TKY TKN hz
        have HONE := Lib.hid (show ∀ u ∈ [Value.int .i64 (k : Int)], u.oneCell' = true from fun u hu => by rw [List.mem_singleton.1 hu]; rfl)
        have HQ1 := Lib.hid (show (asI D).length + 1 ≤ maxLen from by rw [asI_length]; unfold maxLen; omega)
        have HQ2 := Lib.hid (show ((asI D).length + 1) * 8 ≤ 140737488355328 from by rw [asI_length]; omega)
        have HQ3 := Lib.hid (show W8.heap.size ≤ (wr.alloc (.cells #[Value.int .i64 (k : Int)] 3)).heap.size from by have := HX.out.size; simp; omega)
        have HL5 := Lib.hid (show (asI D).length = N5 from HN5.out)
        have HROW' := Lib.hid (show wr.ownsRow W8.heap.size 3 1 (.slice A5 N5 c5) (asI D).length ((asI D).map (fun z => Value.int .i64 z)) from HROW.out)
        go_wp2_with (refine wpList_append_own _ rfl _ _ 23 rfl W8.heap.size 3 iI (.int .i64 0) 1 8 Try.underlying23 HII.out HI0.out HI1.out HI2.out rfl (by decide) _ _ _ rfl (HROW'.out.alloc _) ⟨wr.heap.size, 0, none⟩ 1 1 [Value.int .i64 (k : Int)] rfl rfl (cell_one_new _ _ _) HONE.out HQ1.out HQ2.out HQ3.out ?_; intro v' w4 hown4 hg4 hnil4; have HOWN4 := Lib.hid hown4; have HG4 := Lib.hid hg4; clear hown4 hg4 hnil4)
        have HB4' := Lib.hid ((HX.out.alloc HX.out.size (.cells #[Value.int .i64 (k : Int)] 3)).grown HG4.out HQ3.out (fun j hj => (HROW'.out.lt j hj).1))
        go_roundg (4096 - (k + 1))
        case measure => omega
        case rel =>
          refine ⟨k + 1, by omega, by go_num, ?_, HB4'.out⟩
          have h9 := HOWN4.out
          rw [TK.out]
          show World.ownsRow _ _ _ _ _ (asI (D ++ [k])).length ((asI (D ++ [k])).map _)
          rw [show asI (D ++ [k]) = asI D ++ [(k : Int)] from by simp [asI], List.length_append, List.map_append]
          exact h9
    · obtain rfl : k = 4096 := by omega
      have v1 : decide (((4096 : Nat) : Int) < 4096) = false := by decide
      obtain ⟨G2, rfl⟩ : ∃ G2, G2 = gk := ⟨_, rfl⟩
      rw [pagesU_all] at HROW HITS HN5
      obtain ⟨z, rfl⟩ := Int.eq_ofNat_of_zero_le hpg.1
      have hz9 : z < 4096 := by omega
      have hfl : tt < tablesN (pagesOf s'.e ++ [z]) := by
        have h1 := HFULL.out T8.out.all
        have h2 := T8.out.tot.num
        have h3 := full_tables s'.e z ⟨kd, nn, on⟩
        rw [Int.toNat_natCast] at h1
        omega
      obtain ⟨nf, hnf⟩ : ∃ nf, nf = tablesN (pagesOf s'.e ++ [z]) := ⟨_, rfl⟩
      rw [← hnf] at hfl
      have y1 : decide ((nf : Int) ≤ (tt : Int)) = false := decide_eq_false (by omega)
      have y2 : decide (nf ≤ tt) = false := decide_eq_false (by omega)
      have HONE := Lib.hid (show ∀ u ∈ [Value.int .i64 (z : Int)], u.oneCell' = true from fun u hu => by rw [List.mem_singleton.1 hu]; rfl)
      have HQ1 := Lib.hid (show (asI (pagesOf s'.e)).length + 1 ≤ maxLen from by rw [asI_length]; have := pagesOf_length s'.e; unfold maxLen; omega)
      have HQ2 := Lib.hid (show ((asI (pagesOf s'.e)).length + 1) * 8 ≤ 140737488355328 from by rw [asI_length]; have := pagesOf_length s'.e; omega)
      have HROW' := Lib.hid (show wr.ownsRow W8.heap.size 3 1 (.slice A5 N5 c5) (asI (pagesOf s'.e)).length ((asI (pagesOf s'.e)).map (fun z => Value.int .i64 z)) from HROW.out)
      have HRD := Lib.hid (fun (W : World) (hW : Below wr.heap.size wr W) => Rd.own_below HROW'.out (asI_one _) hW)
      obtain ⟨va2, wa2, va8, wa8, ra2, ra8, ba2, ba8, la8⟩ := app_a (P := Try.prog) (wr := wr) 23 23 23 3 iI (.int .i64 0) 1 8 Try.underlying23 HII.out HI0.out HI1.out HI2.out rfl (by decide) _ _ HQ1.out HQ2.out _ HRD.out [.int .i64 (z : Int)] rfl HONE.out
      obtain ⟨vb2, wb2, vb8, wb8, rb2, rb8, bb2, bb8, lb8⟩ := app_b (P := Try.prog) (wr := wr) 23 23 23 3 iI (.int .i64 0) 1 8 Try.underlying23 HII.out HI0.out HI1.out HI2.out rfl (by decide) _ _ HQ1.out HQ2.out _ HRD.out [.int .i64 (z : Int)] rfl HONE.out
      obtain ⟨vc2, wc2, vc8, wc8, rc2, rc8, bc2, bc8, lc8⟩ := app_c (P := Try.prog) (wr := wr) 23 23 23 3 iI (.int .i64 0) 1 8 Try.underlying23 HII.out HI0.out HI1.out HI2.out rfl (by decide) _ _ HQ1.out HQ2.out _ HRD.out [.int .i64 (z : Int)] rfl HONE.out
      have hITS : ∀ (v : Value) (W : World), W.ownsRow wr.heap.size 3 1 v ((asI (pagesOf s'.e)).length + 1) ((asI (pagesOf s'.e)).map (fun z => Value.int .i64 z) ++ [.int .i64 (z : Int)]) → (show Prop from Calls Try.prog 14 #[v] W fun e w' => e = .returned (.int .i64 (nf : Int)) ∧ Below W.heap.size W w') := fun v W h => by
        have h' : W.ownsRow wr.heap.size 3 1 v (asI (pagesOf s'.e ++ [z])).length ((asI (pagesOf s'.e ++ [z])).map (fun z => Value.int .i64 z)) := by
          rw [show asI (pagesOf s'.e ++ [z]) = asI (pagesOf s'.e) ++ [(z : Int)] from by simp [asI], List.length_append, List.map_append]
          exact h
        rw [hnf]
        exact refTables_any v _ W (Its.of_own h') (by have := pagesOf_length s'.e; rw [List.length_append, List.length_singleton]; omega) (fun x hx => by
          rcases List.mem_append.1 hx with hx | hx
          · exact pagesOf_lt x hx
          · rw [List.mem_singleton.1 hx]; exact hz9)
      have TA := Lib.hid (hITS _ _ la8)
      have TB := Lib.hid (hITS _ _ lb8)
      have TC := Lib.hid (hITS _ _ lc8)
      have RA2 := Lib.hid ra2
      have RA8 := Lib.hid ra8
      have RB2 := Lib.hid rb2
      have RB8 := Lib.hid rb8
      have RC2 := Lib.hid rc2
      have RC8 := Lib.hid rc8
      have BA2 := Lib.hid ba2
      have BA8 := Lib.hid ba8
      have BB2 := Lib.hid bb2
      have BB8 := Lib.hid bb8
      have BC2 := Lib.hid bc2
      have BC8 := Lib.hid bc8
      have hga8 := A8.out.below HX.out A8.out.lt
      have HCL := Lib.hid (show ∀ w', Below wr.heap.size wr w' → w'.cell? ⟨ga, 0, none⟩ = some (.int .i64 (z : Int)) ∧ Below wr.heap.size wr w' from fun w' hw' => ⟨(hga8.below hw' hga8.lt).cell 0, hw'⟩)
      have BR := Lib.hid (Below.refl wr.heap.size wr)
      have BS := Lib.hid (Nat.le_refl wr.heap.size)
      clear ra2 ra8 rb2 rb8 rc2 rc8 ba2 ba8 bb2 bb8 bc2 bc8 la8 lb8 lc8 hITS hga8 hnf
      go_upto_region 31 with fail
      go_cut [121] from 52 to 175 (fun s121 wx => s121 = .bool false ∧ Below wr.heap.size wr wx)
      case first =>
        go_region_held3 (fun w' => w'.cell? ⟨ga, 0, none⟩ = some (.int .i64 (z : Int)) ∧ Below wr.heap.size wr w')
          (first
            | assumption
            | exact HCL.out _ BR.out.drew
            | exact HCL.out _ (BR.out.alloc BS.out _).drew
            | exact HCL.out _ ((BR.out.alloc BS.out _).alloc (by simp) _).drew
            | exact HCL.out _ BA2.out
            | exact HCL.out _ BB2.out
            | exact HCL.out _ BC2.out
            | exact HCL.out _ (BA2.out.alloc BA2.out.size _)
            | exact HCL.out _ BA8.out
            | exact HCL.out _ BB8.out
            | exact HCL.out _ BC8.out
            | exact HCL.out _ (by assumption))
          (first
            | (with_reducible refine step_append_run rfl (.tmp 112) (.tmp 113) 23 rfl (.slice (some ⟨wr.heap.size, 0, none⟩) 0 0) (.slice A5 N5 c5) rfl rfl _ _ RA2.out ?_)
            | (with_reducible refine step_append_run rfl (.tmp 112) (.tmp 113) 23 rfl (.slice (some ⟨wr.heap.size, 0, none⟩) 0 0) (.slice A5 N5 c5) rfl rfl _ _ RB2.out ?_)
            | (with_reducible refine step_append_run rfl (.tmp 112) (.tmp 113) 23 rfl (.slice (some ⟨wr.heap.size + 1, 0, none⟩) 0 0) (.slice A5 N5 c5) rfl rfl _ _ RC2.out ?_)
            | (with_reducible refine step_append_run rfl (.tmp 114) (.tmp 117) 23 rfl va2 (.slice (some ⟨wa2.heap.size, 0, none⟩) 1 1) rfl rfl _ _ RA8.out ?_)
            | (with_reducible refine step_append_run rfl (.tmp 114) (.tmp 117) 23 rfl vb2 (.slice (some ⟨wr.heap.size + 1, 0, none⟩) 1 1) rfl rfl _ _ RB8.out ?_)
            | (with_reducible refine step_append_run rfl (.tmp 114) (.tmp 117) 23 rfl vc2 (.slice (some ⟨wr.heap.size, 0, none⟩) 1 1) rfl rfl _ _ RC8.out ?_)
            | (go_at_call 14; with_reducible refine TA.out.mono ?_; rintro e w' ⟨rfl, h1⟩; have h2 := BA8.out.trans (h1.mono BA8.out.size))
            | (go_at_call 14; with_reducible refine TB.out.mono ?_; rintro e w' ⟨rfl, h1⟩; have h2 := BB8.out.trans (h1.mono BB8.out.size))
            | (go_at_call 14; with_reducible refine TC.out.mono ?_; rintro e w' ⟨rfl, h1⟩; have h2 := BC8.out.trans (h1.mono BC8.out.size)))
        all_goals
          go_wp2_with fail
          go_meet
          exact ⟨rfl, h2⟩
      case rest =>
        obtain ⟨rfl, hbc⟩ := hcut
        have HY := Lib.hid (HX.out.trans (hbc.mono HX.out.size))
        have HITZ := Lib.hid ((HITS.out.below hbc).more hbc.size)
        clear hbc
        have T9 := Lib.hid (T8.out.fresh HY.out)
        have X9 := Lib.hid (X8.out.fresh HY.out)
        have TB := Lib.hid (tv_tables T9.out)
        go_wp2_with fail
        refine TB.out.mono ?_
        rintro e w10 ⟨v10, rfl, hi10, hb10⟩
        have HB10 := Lib.hid hb10
        have HI10 := Lib.hid hi10
        obtain ⟨A10, n10, c10, rfl, hn10, -, -, hz10⟩ := hi10
        have HN10 := Lib.hid hn10
        have HZ10 := Lib.hid hz10
        have hnum := (asI_length s'.t).symm.trans HN10.out
        have HNT := Lib.hid (show tablesN (pagesOf s'.e) = n10 from (T9.out.ok.num T9.out.tot.live).symm.trans hnum)
        have hn10l : n10 ≤ 96 := by
          have := T9.out.tot.num
          omega
        obtain ⟨fq, hfq⟩ : ∃ fq, fq = freeU p'.u 32 := ⟨_, rfl⟩
        have hfn : fq + n10 = tt := by
          have := T9.out.tot.num
          omega
        have g1 : (tt : Int) - (n10 : Int) = (fq : Int) := by omega
        have RT := Lib.hid (fun (W : World) (hW : Below wc.heap.size wc W) => refTables_any (.slice A5 N5 c5) (pagesOf s'.e) W ((HITZ.out.below hW).more hW.size) (by have := pagesOf_length s'.e; omega) pagesOf_lt)
        rw [HNT.out] at RT
        have FQ := Lib.hid (fun (W : World) (hW : Below wc.heap.size wc W) => tv_free (T9.out.fresh hW))
        rw [← hfq] at FQ
        have hfq96 : fq ≤ 96 := by omega
        clear hb10 hn10 hz10 hnum hfq hfn
        go_wp2_with fail
        refine (RT.out _ HB10.out).mono ?_
        rintro e w11 ⟨rfl, hb11⟩
        have HB11 := Lib.hid (HB10.out.trans (hb11.mono HB10.out.size))
        have HT11 := Lib.hid hb11
        clear hb11
        go_wp2_with fail
        refine (FQ.out _ HB11.out).mono ?_
        rintro e w12 ⟨rfl, hb12⟩
        have HB12 := Lib.hid (HB11.out.trans (hb12.mono HB11.out.size))
        have HT12 := Lib.hid (HT11.out.trans (hb12.mono HT11.out.size))
        clear hb12
        go_wp2_with fail
        have T12 := Lib.hid (T9.out.fresh HB12.out)
        have X12 := Lib.hid (X9.out.fresh HB12.out)
        go_loopg [19] n10 (fun gg s19 wx => ∃ j : Nat, j + gg = n10 ∧ s19 = .int .i64 (j : Int) ∧ Below w12.heap.size w12 wx)
        case atStart => exact ⟨0, by omega, rfl, Below.refl _ _⟩
        case round =>
          obtain ⟨j, hjg, rfl, hbj⟩ := hrel
          have HBJ := Lib.hid hbj
          have T := Lib.hid (T12.out.fresh hbj)
          clear hbj
          by_cases hj : j < n10
          · have x1 : decide ((j : Int) < (n10 : Int)) = true := decide_eq_true (by omega)
            have x2 : (j : Int) < (n10 : Int) := by omega
            have x3 : (0 : Int) ≤ (j : Int) := by omega
            obtain ⟨b8, o8, rfl, hbl8, hce8⟩ := HZ10.out (by omega)
            have hnl : s'.t.length = n10 := (asI_length _).symm.trans HN10.out
            have hbm : Below w10.heap.size w10 wr := HT12.out.trans (HBJ.out.mono HT12.out.size)
            have hbl : b8 < wr.heap.size := Nat.lt_of_lt_of_le hbl8 hbm.size
            have hval : ∀ q (hq : q < s'.t.length), (asI s'.t).getD q 0 = ((s'.t[q] : Nat) : Int) := fun q hq => by
              unfold asI
              rw [List.getD_eq_getElem?_getD, List.getElem?_map, List.getElem?_eq_getElem hq]
              rfl
            have hjs : j < s'.t.length := by omega
            obtain ⟨f, hf⟩ : ∃ f : Nat, f = s'.t[j] := ⟨_, rfl⟩
            have hfm : f ∈ s'.t := hf ▸ List.getElem_mem _
            have d0 : wr.cell? ⟨b8, o8 + j, none⟩ = some (.int .i64 (f : Int)) := (hbm.cell hbl8).trans ((hce8 j hj).trans (by rw [hval j hjs, hf]))
            have OW := Lib.hid (fun (W : World) (hW : Below wr.heap.size wr W) => (show Calls Try.prog 16 #[.pointer (some ⟨gT, 0, none⟩), .int .i64 (f : Int)] W fun e w' => e = .returned (.bool true) ∧ Below wr.heap.size wr w' from by
              have h := tv_owns (f : Int) (T.out.fresh hW)
              rw [decide_eq_true (asI_mem.2 hfm)] at h
              exact h.mono fun e w' h => ⟨h.1, hW.trans (h.2.mono hW.size)⟩))
            have US := Lib.hid (fun (W : World) (hW : Below wr.heap.size wr W) => (show Calls Try.prog 17 #[.pointer (some ⟨gP, 0, none⟩), .int .i64 (f : Int)] W fun e w' => e = .returned (.int .i64 2) ∧ Below wr.heap.size wr w' from
              (tv_use f hfm (T.out.fresh hW)).mono fun e w' h => ⟨h.1, hW.trans (h.2.mono hW.size)⟩))
            by_cases hj0 : j = 0
            · subst hj0
              have d0' : wr.cell? ⟨b8, o8, none⟩ = some (.int .i64 (f : Int)) := d0
              have KP := Lib.hid (fun (W : World) (hW : Below wr.heap.size wr W) => ((hW.cell (p := ⟨b8, o8, none⟩) hbl).trans d0' : W.cell? ⟨b8, o8, none⟩ = some (.int .i64 (f : Int))))
              clear hce8 hval hf hfm hjs hnl hbm hbl8 d0 d0' x1 x2 x3
              have x1 : decide ((0 : Int) < (n10 : Int)) = true := decide_eq_true (by omega)
              have x2 : (0 : Int) < (n10 : Int) := by omega
              have x3 : 0 < n10 := hj
              have c0 := KP.out _ (Below.refl wr.heap.size wr).drew
              go_wp2_with fail
              refine wp_region_noPanic ?_
              refine wp_region_any (by kernel_rfl) ?_
              try (change wpAny _ _ _ _ _ _ _ (World.drew _))
              refine wpAny_take (i := 0) (v := ?v1) rfl (by kernel_rfl) (by kernel_rfl) (by kernel_rfl) (fun _ _ _ h => h) (Or.inl ⟨by rfl, ?hy1⟩) ?rest1
              case hy1 => (intro w; go_simp; try with_reducible rfl)
              try simp only [Act.put, List.getElem_toArray, List.getElem_cons_succ, List.getElem_cons_zero, List.setIfInBounds_toArray, List.set_cons_zero, List.set_cons_succ]
              refine wpAny_take (i := 1) (v := ?v2) rfl (by kernel_rfl) (by kernel_rfl) (by kernel_rfl) (fun _ _ _ h => h) (Or.inl ⟨by rfl, ?hy2⟩) ?rest2
              case hy2 => (intro w; go_simp; try with_reducible rfl)
              try simp only [Act.put, List.getElem_toArray, List.getElem_cons_succ, List.getElem_cons_zero, List.setIfInBounds_toArray, List.set_cons_zero, List.set_cons_succ]
              refine wpAny_take (i := 2) (v := ?v3) rfl (by kernel_rfl) (by kernel_rfl) (by kernel_rfl) (fun _ _ _ h => h) (Or.inl ⟨by rfl, ?hy3⟩) ?rest3
              case hy3 => (intro w; go_simp; try with_reducible rfl)
              try simp only [Act.put, List.getElem_toArray, List.getElem_cons_succ, List.getElem_cons_zero, List.setIfInBounds_toArray, List.set_cons_zero, List.set_cons_succ]
              refine wpAny_take (i := 3) (v := ?v4) rfl (by kernel_rfl) (by kernel_rfl) (by kernel_rfl) (fun _ _ _ h => h) (Or.inl ⟨by rfl, ?hy4⟩) ?rest4
              case hy4 => (intro w; go_simp; try with_reducible rfl)
              try simp only [Act.put, List.getElem_toArray, List.getElem_cons_succ, List.getElem_cons_zero, List.setIfInBounds_toArray, List.set_cons_zero, List.set_cons_succ]
              refine wpAny_ready (rs := [4]) (by kernel_rfl) (by simp) ?_
              refine AllReady.cons rfl (fun K hK => ?_) ?_
              · go_simp
                go_wp2_with (first | (go_at_call 16; refine (OW.out _ (Below.refl _ _).drew).mono ?_; rintro e w' ⟨rfl, h1⟩; have c1 := KP.out _ h1) | (go_at_call 17; refine (US.out _ (by assumption)).mono ?_; rintro e w' ⟨rfl, h2⟩))
                try (refine hK _ _ ?_)
                try (clear hK K)
                refine wpAny_ready (rs := [5]) (by kernel_rfl) (by simp) ?_
                refine AllReady.cons rfl (fun K hK => ?_) ?_
                · go_simp
                  go_wp2_with (first | (go_at_call 16; refine (OW.out _ (Below.refl _ _).drew).mono ?_; rintro e w' ⟨rfl, h1⟩; have c1 := KP.out _ h1) | (go_at_call 17; refine (US.out _ (by assumption)).mono ?_; rintro e w' ⟨rfl, h2⟩))
                  try (refine hK _ _ ?_)
                  try (clear hK K)
                  refine wpAny_take (i := 6) (v := ?v5) rfl (by kernel_rfl) (by kernel_rfl) (by kernel_rfl) (fun _ _ _ h => h) (Or.inl ⟨by rfl, ?hy5⟩) ?rest5
                  case hy5 => (intro w; go_simp; try with_reducible rfl)
                  try simp only [Act.put, List.getElem_toArray, List.getElem_cons_succ, List.getElem_cons_zero, List.setIfInBounds_toArray, List.set_cons_zero, List.set_cons_succ]
                  refine wpAny_take (i := 7) (v := ?v6) rfl (by kernel_rfl) (by kernel_rfl) (by kernel_rfl) (fun _ _ _ h => h) (Or.inl ⟨by rfl, ?hy6⟩) ?rest6
                  case hy6 => (intro w; go_simp; try with_reducible rfl)
                  try simp only [Act.put, List.getElem_toArray, List.getElem_cons_succ, List.getElem_cons_zero, List.setIfInBounds_toArray, List.set_cons_zero, List.set_cons_succ]
                  refine wpAny_take (i := 8) (v := ?v7) rfl (by kernel_rfl) (by kernel_rfl) (by kernel_rfl) (fun _ _ _ h => h) (Or.inl ⟨by rfl, ?hy7⟩) ?rest7
                  case hy7 => (intro w; go_simp; try with_reducible rfl)
                  try simp only [Act.put, List.getElem_toArray, List.getElem_cons_succ, List.getElem_cons_zero, List.setIfInBounds_toArray, List.set_cons_zero, List.set_cons_succ]
                  refine wpAny_take (i := 9) (v := ?v8) rfl (by kernel_rfl) (by kernel_rfl) (by kernel_rfl) (fun _ _ _ h => h) (Or.inl ⟨by rfl, ?hy8⟩) ?rest8
                  case hy8 => (intro w; go_simp; try with_reducible rfl)
                  try simp only [Act.put, List.getElem_toArray, List.getElem_cons_succ, List.getElem_cons_zero, List.setIfInBounds_toArray, List.set_cons_zero, List.set_cons_succ]
                  refine wpAny_take (i := 10) (v := ?v9) rfl (by kernel_rfl) (by kernel_rfl) (by kernel_rfl) (fun _ _ _ h => h) (Or.inl ⟨by rfl, ?hy9⟩) ?rest9
                  case hy9 => (intro w; go_simp; try with_reducible rfl)
                  try simp only [Act.put, List.getElem_toArray, List.getElem_cons_succ, List.getElem_cons_zero, List.setIfInBounds_toArray, List.set_cons_zero, List.set_cons_succ]
                  refine wpAny_take (i := 11) (v := ?v10) rfl (by kernel_rfl) (by kernel_rfl) (by kernel_rfl) (fun _ _ _ h => h) (Or.inl ⟨by rfl, ?hy10⟩) ?rest10
                  case hy10 => (intro w; go_simp; try with_reducible rfl)
                  try simp only [Act.put, List.getElem_toArray, List.getElem_cons_succ, List.getElem_cons_zero, List.setIfInBounds_toArray, List.set_cons_zero, List.set_cons_succ]
                  refine wpAny_ready (rs := [12]) (by kernel_rfl) (by simp) ?_
                  refine AllReady.cons rfl (fun K hK => ?_) ?_
                  · go_simp
                    go_wp2_with (first | (go_at_call 16; refine (OW.out _ (Below.refl _ _).drew).mono ?_; rintro e w' ⟨rfl, h1⟩; have c1 := KP.out _ h1) | (go_at_call 17; refine (US.out _ (by assumption)).mono ?_; rintro e w' ⟨rfl, h2⟩))
                    try (refine hK _ _ ?_)
                    try (clear hK K)
                    refine wpAny_ready (rs := [13]) (by kernel_rfl) (by simp) ?_
                    refine AllReady.cons rfl (fun K hK => ?_) ?_
                    · go_simp
                      go_wp2_with (first | (go_at_call 16; refine (OW.out _ (Below.refl _ _).drew).mono ?_; rintro e w' ⟨rfl, h1⟩; have c1 := KP.out _ h1) | (go_at_call 17; refine (US.out _ (by assumption)).mono ?_; rintro e w' ⟨rfl, h2⟩))
                      try (refine hK _ _ ?_)
                      try (clear hK K)
                      refine wpAny_take (i := 14) (v := ?v11) rfl (by kernel_rfl) (by kernel_rfl) (by kernel_rfl) (fun _ _ _ h => h) (Or.inl ⟨by rfl, ?hy11⟩) ?rest11
                      case hy11 => (intro w; go_simp; try with_reducible rfl)
                      try simp only [Act.put, List.getElem_toArray, List.getElem_cons_succ, List.getElem_cons_zero, List.setIfInBounds_toArray, List.set_cons_zero, List.set_cons_succ]
                      refine wpAny_take (i := 15) (v := ?v12) rfl (by kernel_rfl) (by kernel_rfl) (by kernel_rfl) (fun _ _ _ h => h) (Or.inl ⟨by rfl, ?hy12⟩) ?rest12
                      case hy12 => (intro w; go_simp; try with_reducible rfl)
                      try simp only [Act.put, List.getElem_toArray, List.getElem_cons_succ, List.getElem_cons_zero, List.setIfInBounds_toArray, List.set_cons_zero, List.set_cons_succ]
                      refine wpAny_take (i := 16) (v := ?v13) rfl (by kernel_rfl) (by kernel_rfl) (by kernel_rfl) (fun _ _ _ h => h) (Or.inl ⟨by rfl, ?hy13⟩) ?rest13
                      case hy13 => (intro w; go_simp; try with_reducible rfl)
                      try simp only [Act.put, List.getElem_toArray, List.getElem_cons_succ, List.getElem_cons_zero, List.setIfInBounds_toArray, List.set_cons_zero, List.set_cons_succ]
                      refine wpAny_take (i := 17) (v := ?v14) rfl (by kernel_rfl) (by kernel_rfl) (by kernel_rfl) (fun _ _ _ h => h) (Or.inl ⟨by rfl, ?hy14⟩) ?rest14
                      case hy14 => (intro w; go_simp; try with_reducible rfl)
                      try simp only [Act.put, List.getElem_toArray, List.getElem_cons_succ, List.getElem_cons_zero, List.setIfInBounds_toArray, List.set_cons_zero, List.set_cons_succ]
                      refine wpAny_take (i := 18) (v := ?v15) rfl (by kernel_rfl) (by kernel_rfl) (by kernel_rfl) (fun _ _ _ h => h) (Or.inl ⟨by rfl, ?hy15⟩) ?rest15
                      case hy15 => (intro w; go_simp; try with_reducible rfl)
                      try simp only [Act.put, List.getElem_toArray, List.getElem_cons_succ, List.getElem_cons_zero, List.setIfInBounds_toArray, List.set_cons_zero, List.set_cons_succ]
                      refine wpAny_take (i := 19) (v := ?v16) rfl (by kernel_rfl) (by kernel_rfl) (by kernel_rfl) (fun _ _ _ h => h) (Or.inl ⟨by rfl, ?hy16⟩) ?rest16
                      case hy16 => (intro w; go_simp; try with_reducible rfl)
                      try simp only [Act.put, List.getElem_toArray, List.getElem_cons_succ, List.getElem_cons_zero, List.setIfInBounds_toArray, List.set_cons_zero, List.set_cons_succ]
                      refine wpAny_take (i := 20) (v := undef) rfl (by kernel_rfl) (by kernel_rfl) (by kernel_rfl) (fun _ _ _ h => h) (Or.inr ⟨by rfl, rfl⟩) ?_
                      try simp only [Act.put, List.getElem_toArray, List.getElem_cons_succ, List.getElem_cons_zero, List.setIfInBounds_toArray, List.set_cons_zero, List.set_cons_succ]
                      refine wpAny_take (i := 21) (v := undef) rfl (by kernel_rfl) (by kernel_rfl) (by kernel_rfl) (fun _ _ _ h => h) (Or.inr ⟨by rfl, rfl⟩) ?_
                      try simp only [Act.put, List.getElem_toArray, List.getElem_cons_succ, List.getElem_cons_zero, List.setIfInBounds_toArray, List.set_cons_zero, List.set_cons_succ]
                      refine wpAny_take (i := 22) (v := undef) rfl (by kernel_rfl) (by kernel_rfl) (by kernel_rfl) (fun _ _ _ h => h) (Or.inr ⟨by rfl, rfl⟩) ?_
                      try simp only [Act.put, List.getElem_toArray, List.getElem_cons_succ, List.getElem_cons_zero, List.setIfInBounds_toArray, List.set_cons_zero, List.set_cons_succ]
                      refine wpAny_take (i := 23) (v := undef) rfl (by kernel_rfl) (by kernel_rfl) (by kernel_rfl) (fun _ _ _ h => h) (Or.inr ⟨by rfl, rfl⟩) ?_
                      try simp only [Act.put, List.getElem_toArray, List.getElem_cons_succ, List.getElem_cons_zero, List.setIfInBounds_toArray, List.set_cons_zero, List.set_cons_succ]
                      refine wpAny_take (i := 24) (v := undef) rfl (by kernel_rfl) (by kernel_rfl) (by kernel_rfl) (fun _ _ _ h => h) (Or.inr ⟨by rfl, rfl⟩) ?_
                      try simp only [Act.put, List.getElem_toArray, List.getElem_cons_succ, List.getElem_cons_zero, List.setIfInBounds_toArray, List.set_cons_zero, List.set_cons_succ]
                      refine wpAny_take (i := 25) (v := undef) rfl (by kernel_rfl) (by kernel_rfl) (by kernel_rfl) (fun _ _ _ h => h) (Or.inr ⟨by rfl, rfl⟩) ?_
                      try simp only [Act.put, List.getElem_toArray, List.getElem_cons_succ, List.getElem_cons_zero, List.setIfInBounds_toArray, List.set_cons_zero, List.set_cons_succ]
                      refine wpAny_take (i := 26) (v := undef) rfl (by kernel_rfl) (by kernel_rfl) (by kernel_rfl) (fun _ _ _ h => h) (Or.inr ⟨by rfl, rfl⟩) ?_
                      try simp only [Act.put, List.getElem_toArray, List.getElem_cons_succ, List.getElem_cons_zero, List.setIfInBounds_toArray, List.set_cons_zero, List.set_cons_succ]
                      refine wpAny_take (i := 27) (v := undef) rfl (by kernel_rfl) (by kernel_rfl) (by kernel_rfl) (fun _ _ _ h => h) (Or.inr ⟨by rfl, rfl⟩) ?_
                      try simp only [Act.put, List.getElem_toArray, List.getElem_cons_succ, List.getElem_cons_zero, List.setIfInBounds_toArray, List.set_cons_zero, List.set_cons_succ]
                      refine wpAny_take (i := 28) (v := undef) rfl (by kernel_rfl) (by kernel_rfl) (by kernel_rfl) (fun _ _ _ h => h) (Or.inr ⟨by rfl, rfl⟩) ?_
                      try simp only [Act.put, List.getElem_toArray, List.getElem_cons_succ, List.getElem_cons_zero, List.setIfInBounds_toArray, List.set_cons_zero, List.set_cons_succ]
                      refine wpAny_take (i := 29) (v := undef) rfl (by kernel_rfl) (by kernel_rfl) (by kernel_rfl) (fun _ _ _ h => h) (Or.inr ⟨by rfl, rfl⟩) ?_
                      try simp only [Act.put, List.getElem_toArray, List.getElem_cons_succ, List.getElem_cons_zero, List.setIfInBounds_toArray, List.set_cons_zero, List.set_cons_succ]
                      refine wpAny_take (i := 30) (v := ?v17) rfl (by kernel_rfl) (by kernel_rfl) (by kernel_rfl) (fun _ _ _ h => h) (Or.inl ⟨by rfl, ?hy17⟩) ?rest17
                      case hy17 => (intro w; go_simp; try with_reducible rfl)
                      try simp only [Act.put, List.getElem_toArray, List.getElem_cons_succ, List.getElem_cons_zero, List.setIfInBounds_toArray, List.set_cons_zero, List.set_cons_succ]
                      refine wpAny_take (i := 31) (v := ?v18) rfl (by kernel_rfl) (by kernel_rfl) (by kernel_rfl) (fun _ _ _ h => h) (Or.inl ⟨by rfl, ?hy18⟩) ?rest18
                      case hy18 => (intro w; go_simp; try with_reducible rfl)
                      try simp only [Act.put, List.getElem_toArray, List.getElem_cons_succ, List.getElem_cons_zero, List.setIfInBounds_toArray, List.set_cons_zero, List.set_cons_succ]
                      refine wpAny_done (by kernel_rfl) ?_ _
                      refine NoPanic.normal ?_
                      have H2 := Lib.hid h2
                      clear h2
                      go_simp
                      go_wp2_with fail
                      go_roundg (n10 - 1)
                      case measure => omega
                      case rel => exact ⟨1, by omega, by go_num, HBJ.out.trans (H2.out.mono HBJ.out.size)⟩
                    exact AllReady.nil
                  exact AllReady.nil
                exact AllReady.nil
              exact AllReady.nil
            · have z1 : decide ((0 : Int) < (j : Int)) = true := decide_eq_true (by omega)
              have z1a : decide (0 < j) = true := decide_eq_true (by omega)
              obtain ⟨j1, hj1⟩ : ∃ j1, j1 = j - 1 := ⟨_, rfl⟩
              have z2 : (j : Int) - 1 = (j1 : Int) := by omega
              have z3 : (j1 : Int) < (n10 : Int) := by omega
              have z4 : (0 : Int) ≤ (j1 : Int) := by omega
              have z3a : j1 < n10 := by omega
              have z7 : IntKind.i64.wrap ((j : Int) - 1) = (j1 : Int) := by rw [IntKind.wrap_i64]; omega
              have z8 : IntKind.i64.wrap (j1 : Int) = (j1 : Int) := by rw [IntKind.wrap_i64]; omega
              have hjs1 : j1 < s'.t.length := by omega
              obtain ⟨f1, hf1⟩ : ∃ f1 : Nat, f1 = s'.t[j1] := ⟨_, rfl⟩
              have d1 : wr.cell? ⟨b8, o8 + j1, none⟩ = some (.int .i64 (f1 : Int)) := (hbm.cell hbl8).trans ((hce8 j1 (by omega)).trans (by rw [hval j1 hjs1, hf1]))
              have hlt1 : f1 < f := by
                rw [hf1, hf]
                exact List.pairwise_iff_getElem.1 T.out.ok.sorted j1 j hjs1 hjs (by omega)
              have z5 : decide ((f : Int) ≤ (f1 : Int)) = false := decide_eq_false (by omega)
              have z6 : decide (f ≤ f1) = false := decide_eq_false (by omega)
              clear hce8 hval hf hfm hjs hnl hbm hbl8 hj0 hf1 hjs1 hj1 hlt1
              have KP := Lib.hid (fun (W : World) (hW : Below wr.heap.size wr W) => (⟨(hW.cell (p := ⟨b8, o8 + j, none⟩) hbl).trans d0, (hW.cell (p := ⟨b8, o8 + j1, none⟩) hbl).trans d1⟩ : W.cell? ⟨b8, o8 + j, none⟩ = some (.int .i64 (f : Int)) ∧ W.cell? ⟨b8, o8 + j1, none⟩ = some (.int .i64 (f1 : Int))))
              clear d0 d1
              go_wp2_with fail
              go_region_held3 (fun w' => w'.cell? ⟨b8, o8 + j, none⟩ = some (.int .i64 (f : Int)) ∧ w'.cell? ⟨b8, o8 + j1, none⟩ = some (.int .i64 (f1 : Int)))
                (first | assumption | exact KP.out _ (Below.refl _ _) | exact KP.out _ (Below.refl _ _).drew | exact KP.out _ (by assumption))
                (first
                  | (go_at_call 16; refine (OW.out _ (Below.refl _ _).drew).mono ?_; rintro e w' ⟨rfl, h1⟩)
                  | (go_at_call 17; refine (US.out _ (by assumption)).mono ?_; rintro e w' ⟨rfl, h2⟩))
              have H2 := Lib.hid h2
              clear h2
              go_wp2_with fail
              go_roundg (n10 - (j + 1))
              case measure => omega
              case rel => exact ⟨j + 1, by omega, by go_num, HBJ.out.trans (H2.out.mono HBJ.out.size)⟩
          · obtain rfl : j = n10 := by omega
            have x1 : decide ((j : Int) < (j : Int)) = false := decide_eq_false (by omega)
            have x2 : ¬ ((j : Int) < (j : Int)) := by omega
            go_wp2_with fail
            exact ⟨⟨rfl, rfl, rfl, rfl, rfl, rfl, rfl, rfl, rfl, rfl, rfl, rfl, rfl, rfl, rfl, rfl, rfl, rfl, rfl, rfl, rfl, rfl, rfl, rfl, rfl, rfl, rfl, rfl, rfl, rfl, rfl, rfl, rfl, rfl, rfl, rfl, rfl, rfl, rfl, rfl, rfl, rfl, rfl, rfl, rfl, rfl, rfl, rfl, rfl, rfl, rfl, rfl, rfl, rfl, rfl, rfl, rfl, rfl, rfl, rfl, rfl, rfl, rfl, rfl, rfl, rfl, rfl, rfl, rfl, rfl, rfl, rfl, rfl, rfl, rfl, rfl, rfl, rfl, rfl, rfl, rfl, rfl, rfl, rfl, rfl, rfl, rfl, rfl, rfl, rfl, rfl, rfl, rfl, rfl, rfl, rfl, rfl, rfl, rfl⟩, T.out, X12.out.fresh HBJ.out⟩
end Go.Proofs.Ytegoookllckhiaa
