/-
  LogCrash answers true for any records, any fuse, any bits and any tear, and writes nothing that was there.
  Conditions: the records are read in memory.
-/
import Derived.Test.YthoolcnecphihaaLogCrA
import Derived.Deep.CutRange
namespace Go.Proofs.Ythoolcnecphihaa
open Go.RowKit
set_option linter.unusedVariables false

set_option maxHeartbeats 400000 in
theorem logCrash_edge (A : Option Addr) (l c : Nat) (f K T : Int) (w : World) (h : 60 < l) :
    Calls Try.prog 5 #[.slice A l c, .int .i64 f, .int .u64 K, .int .i64 T] w fun e w' => e = .returned (.bool true) ∧ Below w.heap.size w w' := by
  have t1 : decide ((60 : Int) < (l : Int)) = true := decide_eq_true (by omega)
  clear h
  go_enter Try.func5, Try.ntmps5
  go_wp2_with fail
  refine (logAnswers_any _).mono ?_
  rintro e w1 ⟨rfl, hb⟩
  go_wp2
  go_ret
  exact ⟨rfl, hb⟩

/-- What holds ahead of each round. -/
def CrAt (w : World) (xss : List (List Nat)) (f i : Nat) (nv tv : Value) (wx : World) : Prop :=
  2 * i ≤ f ∧ (∀ j, j < i → (xss.getD j []).length ≤ 50) ∧ Dsk wx (w.heap.size + 2) w.heap.size (w.heap.size + 1) 192 (bkS 9 (xss.take i)) (fun _ => none) (fusT (f - 2 * i)) ∧
    Lst wx (dk (w.heap.size + 2) w.heap.size (w.heap.size + 1)) w.heap.size (w.heap.size + 3) 29 nv (xss.take i) ∧
    Lst wx (dk (w.heap.size + 2) w.heap.size (w.heap.size + 1)) w.heap.size (w.heap.size + 3) 29 tv (xss.take i) ∧ Below w.heap.size w wx
theorem take_short {xss : List (List Nat)} {i : Nat} (h : ∀ j, j < i → (xss.getD j []).length ≤ 50) (hi : i ≤ xss.length) : (xss.take i).length = i ∧ ∀ j, j < (xss.take i).length → ((xss.take i).getD j []).length ≤ 50 := by
  have hl : (xss.take i).length = i := by simp; omega
  refine ⟨hl, fun j hj => ?_⟩
  rw [hl] at hj
  simp only [List.getD_eq_getElem?_getD, List.getElem?_take, if_pos hj]
  rw [← List.getD_eq_getElem?_getD]
  exact h j hj
theorem take_more {xss : List (List Nat)} {i : Nat} (hi : i < xss.length) : xss.take (i + 1) = xss.take i ++ [xss.getD i []] := by
  rw [List.take_succ_eq_append_getElem hi]
  simp [hi]

set_option maxRecDepth 20000 in
set_option maxHeartbeats 6400000 in
theorem logCrash_any (v0 : Value) (xss : List (List Nat)) (z : Int) (f K : Nat) (T : Int) (tn : Nat) (w : World) (h0 : Pts w v0 xss) (hl : xss.length ≤ 60) (hz : (z < 0 ∧ f = 0) ∨ z = (f : Int)) (hf : f ≤ 9223372036854775807) (hK : K < 18446744073709551616) (hT : Near64 T tn) :
    Calls Try.prog 5 #[v0, .int .i64 z, .int .u64 (K : Int), .int .i64 T] w fun e w' => e = .returned (.bool true) ∧ Below w.heap.size w w' := by
  have H0 := Lib.hid h0
  obtain ⟨A, N, c, rfl, hN, hNc, hcm, -⟩ := h0
  have HN := Lib.hid hN
  have HK := Lib.hid hK
  have HT := Lib.hid hT
  have HZ := Lib.hid hz
  have HF := Lib.hid hf
  have hN60 : N ≤ 60 := by omega
  have t1 : decide ((60 : Int) < (N : Int)) = false := decide_eq_false (by omega)
  unfold maxLen at hcm
  obtain ⟨i0, hi, hz0, hz1, hz2⟩ := info_parts Try.infoB
  have HI := Lib.hid hi
  have HZ0 := Lib.hid hz0
  have HZ1 := Lib.hid hz1
  have HZ2 := Lib.hid hz2
  clear hi hz0 hz1 hz2 hl hN hz hf hK hT
  go_enter Try.func5, Try.ntmps5
  go_wp2_with fail
  refine (dnew_any 192 192 w (by unfold NearD; omega)).mono ?_
  rintro e w1 ⟨rfl, hd1, hb1, hz1⟩
  have HD1 := Lib.hid hd1
  have HN1 := Lib.hid hb1
  clear hd1 hb1 hz1
  go_wp2_with fail
  have hfu : Calls Try.prog 20 #[.pointer (some ⟨w.heap.size + 2, 0, none⟩), .int .i64 z] w1 (TrPost w1 (w.heap.size + 2) w.heap.size (w.heap.size + 1) 192 (fun _ => zer) (fun _ => none) (fusT f)) := by
    rcases HZ.out with ⟨h1, rfl⟩ | rfl
    · exact fuse_low _ _ _ _ _ _ Tr.none_ z w1 HD1.out h1
    · exact fuse_any _ _ _ _ _ _ Tr.none_ f w1 HD1.out HF.out
  refine hfu.mono ?_
  rintro e w2 ⟨rfl, hd2, ho2⟩
  have HS2 := Lib.hid (show CrAt w xss f 0 (.slice none 0 0) (.slice none 0 0) w2 from ⟨by omega, fun j hj => absurd hj (by omega), by
    rw [List.take_zero, bkS_nil]
    exact hd2, by rw [List.take_zero]; exact Lst.nil_ _ _ _ _ _, by rw [List.take_zero]; exact Lst.nil_ _ _ _ _ _,
    (show Turns (dk (w.heap.size + 2) w.heap.size (w.heap.size + 1)) w1 w2 from Turns.of_only ho2 (.inl rfl)).fresh_ HN1.out (Nat.le_refl _) (by omega) (Nat.le_refl _) (by omega)⟩)
  clear hd2 ho2 hfu
  go_wp2_with fail
  go_loopg [10, 11, 12] N (fun g s10 s11 s12 wx => ∃ i : Nat, i + g = N ∧ s12 = .int .i64 i ∧ CrAt w xss f i s10 s11 wx)
  case atStart => exact ⟨0, by omega, rfl, HS2.out⟩
  case round =>
    obtain ⟨i, hig, rfl, hr⟩ := hrel
    have HR := Lib.hid hr
    obtain ⟨An, cn, hvn, -⟩ := hr.2.2.2.1.shape
    have hti := take_short hr.2.1 (show i ≤ xss.length by rw [HN.out]; omega)
    rw [hti.1] at hvn
    subst hvn
    have HTI := Lib.hid hti
    clear hr hti
    by_cases hlt : i < N
    · have t4 : decide ((i : Int) < (N : Int)) = true := decide_eq_true (by omega)
      have t5 : (i : Int) < (N : Int) := by omega
      have t6 : (0 : Int) ≤ (i : Int) := by omega
      obtain ⟨b, off, rfl⟩ := H0.out.addr (by omega)
      obtain ⟨u, hc0, hu⟩ := H0.out.at_ (j := i) (by rw [HN.out]; exact hlt)
      have HCE := Lib.hid (show ∀ w', Below w.heap.size w w' → w'.cell? ⟨b, off + i, none⟩ = some u from fun w' hw' => (hw'.cell (World.block_lt_of_cell? w _ hc0)).trans hc0)
      obtain ⟨x, hx⟩ : ∃ x, x = xss.getD i [] := ⟨_, rfl⟩
      rw [← hx] at hu
      have HU := Lib.hid hu
      have hcell := HCE.out _ HR.out.2.2.2.2.2
      have HTM := Lib.hid (show xss.take (i + 1) = xss.take i ++ [x] from by rw [hx]; exact take_more (by rw [HN.out]; exact hlt))
      have HXE := Lib.hid hx
      obtain ⟨A2, n2, c2, rfl, hn2, -⟩ := hu
      have HX := Lib.hid hn2
      clear hc0 hx hn2
      by_cases h50 : 50 < n2
      · have t7 : decide ((50 : Int) < (n2 : Int)) = true := decide_eq_true (by omega)
        go_wp2_with fail
        refine (logAnswers_any _).mono ?_
        rintro e w3 ⟨rfl, hb3⟩
        go_wp2
        go_ret
        exact ⟨rfl, HR.out.2.2.2.2.2.trans (hb3.mono HR.out.2.2.2.2.2.size)⟩
      · have t7 : decide ((50 : Int) < (n2 : Int)) = false := decide_eq_false (by omega)
        have HX50 := Lib.hid (show x.length ≤ 50 by have := HX.out; omega)
        have HUE := Lib.hid (show ∀ w', Below wr.heap.size wr w' → El w' (dk (w.heap.size + 2) w.heap.size (w.heap.size + 1)) w.heap.size 29 (.slice A2 n2 c2) x from fun w' hw' => El.of_bts ((HU.out.below HR.out.2.2.2.2.2).below (hw'.mono HR.out.2.2.2.2.2.size)) (dk_lo w) (Nat.le_trans HR.out.2.2.2.2.2.size hw'.size))
        have hb3 : w.heap.size + 3 ≤ wr.heap.size := by have := HR.out.2.2.1.lt.1; omega
        have hfw : (xss.take i).length + 1 ≤ 1000000 := by have := HTI.out.1; omega
        obtain ⟨va2, wa2, va8, wa8, ra2, ra8, ba2, ba8, la8⟩ := order_a (P := Try.prog) (wr := wr) 22 22 22 29 _ w.heap.size (w.heap.size + 3) i0 Try.underlying22 HI.out HZ0.out HZ1.out HZ2.out _ _ HR.out.2.2.2.1 _ x HUE.out (dk_base w) hfw hb3 (by omega)
        obtain ⟨vb2, wb2, vb8, wb8, rb2, rb8, bb2, bb8, lb8⟩ := order_b (P := Try.prog) (wr := wr) 22 22 22 29 _ w.heap.size (w.heap.size + 3) i0 Try.underlying22 HI.out HZ0.out HZ1.out HZ2.out _ _ HR.out.2.2.2.1 _ x HUE.out (dk_base w) hfw hb3 (by omega)
        obtain ⟨vc2, wc2, vc8, wc8, rc2, rc8, bc2, bc8, lc8⟩ := order_c (P := Try.prog) (wr := wr) 22 22 22 29 _ w.heap.size (w.heap.size + 3) i0 Try.underlying22 HI.out HZ0.out HZ1.out HZ2.out _ _ HR.out.2.2.2.1 _ x HUE.out (dk_base w) hfw hb3 (by omega)
        have RA2 := Lib.hid ra2
        have RA8 := Lib.hid ra8
        have RB2 := Lib.hid rb2
        have RB8 := Lib.hid rb8
        have RC2 := Lib.hid rc2
        have RC8 := Lib.hid rc8
        have BA2 := Lib.hid ba2
        have BA8 := Lib.hid ba8
        have BB2 := Lib.hid bb2
        have BB8 := Lib.hid bb8
        have BC2 := Lib.hid bc2
        have BC8 := Lib.hid bc8
        have LA8 := Lib.hid la8
        have LB8 := Lib.hid lb8
        have LC8 := Lib.hid lc8
        have HCL := Lib.hid (show ∀ w', Below wr.heap.size wr w' → w'.cell? ⟨b, off + i, none⟩ = some (.slice A2 n2 c2) ∧ Below wr.heap.size wr w' from fun w' hw' => ⟨HCE.out _ (HR.out.2.2.2.2.2.trans (hw'.mono HR.out.2.2.2.2.2.size)), hw'⟩)
        have BR := Lib.hid (Below.refl wr.heap.size wr)
        have BS := Lib.hid (Nat.le_refl wr.heap.size)
        clear ra2 ra8 rb2 rb8 rc2 rc8 ba2 ba8 bb2 bb8 bc2 bc8 la8 lb8 lc8 hb3 hfw
        go_wp2_with fail
        go_cut [11] from 23 to 53 (fun s11 wx => Lst wx (dk (w.heap.size + 2) w.heap.size (w.heap.size + 1)) w.heap.size (w.heap.size + 3) 29 s11 (xss.take i ++ [x]) ∧ Below wr.heap.size wr wx)
        case first =>
          go_region_held3 (fun w' => w'.cell? ⟨b, off + i, none⟩ = some (.slice A2 n2 c2) ∧ Below wr.heap.size wr w')
            (first
              | assumption
              | exact HCL.out _ BR.out.drew
              | exact HCL.out _ (BR.out.alloc BS.out _).drew
              | exact HCL.out _ ((BR.out.alloc BS.out _).alloc (by simp) _).drew
              | exact HCL.out _ BA2.out
              | exact HCL.out _ BB2.out
              | exact HCL.out _ BC2.out
              | exact HCL.out _ (BA2.out.alloc BA2.out.size _)
              | exact HCL.out _ BA8.out
              | exact HCL.out _ BB8.out
              | exact HCL.out _ BC8.out)
            (first
              | (with_reducible refine step_append_run rfl (.tmp 36) (.tmp 37) 22 rfl (.slice (some ⟨wr.heap.size, 0, none⟩) 0 0) (.slice An i cn) rfl rfl _ _ RA2.out ?_)
              | (with_reducible refine step_append_run rfl (.tmp 36) (.tmp 37) 22 rfl (.slice (some ⟨wr.heap.size, 0, none⟩) 0 0) (.slice An i cn) rfl rfl _ _ RB2.out ?_)
              | (with_reducible refine step_append_run rfl (.tmp 36) (.tmp 37) 22 rfl (.slice (some ⟨wr.heap.size + 1, 0, none⟩) 0 0) (.slice An i cn) rfl rfl _ _ RC2.out ?_)
              | (with_reducible refine step_append_run rfl (.tmp 38) (.tmp 43) 22 rfl va2 (.slice (some ⟨wa2.heap.size, 0, none⟩) 1 1) rfl rfl _ _ RA8.out ?_)
              | (with_reducible refine step_append_run rfl (.tmp 38) (.tmp 43) 22 rfl vb2 (.slice (some ⟨wr.heap.size + 1, 0, none⟩) 1 1) rfl rfl _ _ RB8.out ?_)
              | (with_reducible refine step_append_run rfl (.tmp 38) (.tmp 43) 22 rfl vc2 (.slice (some ⟨wr.heap.size, 0, none⟩) 1 1) rfl rfl _ _ RC8.out ?_))
          all_goals
            go_wp2_with fail
            go_meet
            case rel => first | exact ⟨LA8.out, BA8.out⟩ | exact ⟨LB8.out, BB8.out⟩ | exact ⟨LC8.out, BC8.out⟩
        case rest =>
          obtain ⟨hl11, hbc⟩ := hcut
          have HTHc := Lib.hid hl11
          have HNc := Lib.hid (HR.out.2.2.2.2.2.trans (hbc.mono HR.out.2.2.2.2.2.size))
          have HNOc := Lib.hid (HR.out.2.2.2.1.turns (dk_base w) (Turns.of_below hbc (Nat.le_refl _)))
          have HDc := Lib.hid (HR.out.2.2.1.fresh hbc)
          have hcellc := HCE.out _ HNc.out
          have HXc := Lib.hid (HU.out.below HNc.out)
          have HKS := Lib.hid (show (xss.take i).length = i from HTI.out.1)
          clear hl11 hbc hcell
          go_wp2_with fail
          refine (append_any _ _ _ _ _ _ (fusT (f - 2 * i)) 9 i _ x w.heap.size wc HDc.out (by omega) HXc.out HNc.out.size HX50.out (by omega) (by omega)).mono ?_
          rintro e w3 (⟨g1, rfl, hd3, ht3⟩ | ⟨g1, g2, rfl, hd3, ht3⟩ | ⟨g1, g2, rfl, hd3, ht3⟩)
          · have k0 : ((((fusT (f - 2 * i)).ans : Nat) : Int) != 0) = true := by rw [bne_iff_ne]; omega
            have HD3 := Lib.hid hd3
            have HNO3 := Lib.hid (HNOc.out.turns (dk_base w) ht3)
            have HTH3 := Lib.hid (HTHc.out.turns (dk_base w) ht3)
            have HN3 := Lib.hid (ht3.fresh_ HNc.out (Nat.le_refl _) (by omega) (Nat.le_refl _) (by omega))
            have HOK := Lib.hid (show CrashOK (bkS 9 (xss.take i)) (fun _ => none) (xss.take i) (xss.take i ++ [x]) from crashOK_none (by have := HKS.out; omega) HTI.out.2)
            clear hd3 ht3 hcellc
            go_wp2_with fail
            refine (dcrash_any _ _ _ _ _ _ _ K T tn w3 HD3.out HK.out HT.out).mono ?_
            rintro e w4 ⟨rfl, hd4, ht4⟩
            have hok := fun m => HOK.out K tn T m HT.out
            generalize hF : crashL _ _ _ tn = F at hd4 hok
            have HOKF := Lib.hid hok
            have HD4 := Lib.hid hd4
            have HNO4 := Lib.hid (HNO3.out.turns (dk_base w) ht4)
            have HTH4 := Lib.hid (HTH3.out.turns (dk_base w) ht4)
            have HN4 := Lib.hid (ht4.fresh_ HN3.out (Nat.le_refl _) (by omega) (Nat.le_refl _) (by omega))
            have HDM := Lib.hid (dk_lt hd4)
            have HFL := Lib.hid (show ∀ j, j < 64 → (F j).length = 64 from fun j hj => (hd4.last_ (show j < 192 by omega)).1)
            clear hd4 ht4 hok hF
            go_wp2_with fail
            refine (replay_ok _ _ _ _ _ _ 9 w4 HD4.out (by omega) (by omega)).mono ?_
            rintro e w5 ⟨m, v5, hs5, rfl, hl5, hd5, ht5⟩
            have HST := Lib.hid (show Stop F 9 m from hs5)
            have HL5 := Lib.hid (show Lst w5 (dk (w.heap.size + 2) w.heap.size (w.heap.size + 1)) 0 w4.heap.size 29 v5 (pays F m) from hl5)
            have HOR := Lib.hid (HOKF.out m hs5)
            have HNO5 := Lib.hid (HNO4.out.turns (dk_base w) ht5)
            have HTH5 := Lib.hid (HTH4.out.turns (dk_base w) ht5)
            have HD5 := Lib.hid (show Dsk w5 (w.heap.size + 2) w.heap.size (w.heap.size + 1) 192 F (fun _ => none) Tr.none_ from hd5)
            have HN5 := Lib.hid (ht5.fresh_ HN4.out (Nat.le_refl _) (by omega) (Nat.le_refl _) (by omega))
            clear hs5 hl5 hd5 ht5
            go_wp2_with fail
            refine (logAnswers_any _).mono ?_
            rintro e w6 ⟨rfl, hb6⟩
            have HLw6 := Lib.hid (HL5.out.turns HDM.out (Turns.of_below hb6 (Nat.le_refl _)))
            have HNO6 := Lib.hid (HNO5.out.turns (dk_base w) (Turns.of_below hb6 (Nat.le_refl _)))
            have HTw6 := Lib.hid (HTH5.out.turns (dk_base w) (Turns.of_below hb6 (Nat.le_refl _)))
            have HDw6 := Lib.hid (HD5.out.fresh hb6)
            have HNw6 := Lib.hid (HN5.out.trans (hb6.mono HN5.out.size))
            clear hb6
            by_cases c1 : pays F m = xss.take i
            · skip
              go_wp2_with fail
              refine (sameAll_any _ _ _ _ _ HLw6.out.pts HNO6.out.pts).mono ?_
              rintro e wax ⟨rfl, qwa, rfl⟩
              rw [decide_eq_true c1]
              obtain ⟨wa, hwa⟩ : ∃ wa, wa = w6.drewN qwa := ⟨_, rfl⟩
              have HDwa := Lib.hid (show Dsk wa _ _ _ _ _ _ _ from by rw [hwa]; exact HDw6.out)
              have HLwa := Lib.hid (show Lst wa _ _ _ _ _ _ from by rw [hwa]; exact HLw6.out)
              have HTwa := Lib.hid (show Lst wa _ _ _ _ _ _ from by rw [hwa]; exact HTw6.out)
              have HNwa := Lib.hid (show Below w.heap.size w wa from by rw [hwa]; exact below_drewN HNw6.out qwa)
              rw [← hwa]
              clear hwa
              go_wp2_with fail
              refine (logSectors_any _ _ _ _ _ _ wa HDwa.out (by omega)).mono ?_
              rintro e wf ⟨vf, rfl, hdf, hlf, htf⟩
              have HPf := Lib.hid (show Pts wf vf (firsts F 64) from hlf.pts)
              have HLf := Lib.hid (HLwa.out.turns HDM.out htf)
              have HNf := Lib.hid (htf.fresh_ HNwa.out (Nat.le_refl _) (by omega) (Nat.le_refl _) (by omega))
              clear hdf hlf htf
              go_wp2_with fail
              refine (records_any vf (firsts F 64) 9 wf HPf.out (by rw [firsts_length]; exact Nat.le_refl _) (fun j hj => by rw [firsts_getD _ _ _ hj]; exact HFL.out j hj) (by omega)).mono ?_
              rintro e wg ⟨mg, vg, hsg, rfl, hlg, hbg⟩
              obtain rfl : mg = m := hsg.uniq HST.out (fun j hj => firsts_getD _ _ _ hj)
              rw [pays_congr (F' := F) (fun j hj => firsts_getD F 64 j (by have := HST.out.1; omega))] at hlg
              have HPg := Lib.hid hlg.pts
              have HQg := Lib.hid (HLf.out.turns HDM.out (Turns.of_below hbg (Nat.le_refl _))).pts
              have HNg := Lib.hid (HNf.out.trans (hbg.mono HNf.out.size))
              clear hsg hlg hbg
              go_wp2_with fail
              refine (sameAll_any _ _ _ _ _ HQg.out HPg.out).mono ?_
              rintro e wh ⟨rfl, qh, rfl⟩
              rw [decide_eq_true (rfl : pays F mg = pays F mg)]
              go_wp2
              go_ret
              exact ⟨by simp, below_drewN HNg.out qh⟩
            · by_cases c2 : pays F m = xss.take i ++ [x]
              · skip
                go_wp2_with fail
                refine (sameAll_any _ _ _ _ _ HLw6.out.pts HNO6.out.pts).mono ?_
                rintro e wax ⟨rfl, qwa, rfl⟩
                rw [decide_eq_false c1]
                obtain ⟨wa, hwa⟩ : ∃ wa, wa = w6.drewN qwa := ⟨_, rfl⟩
                have HDwa := Lib.hid (show Dsk wa _ _ _ _ _ _ _ from by rw [hwa]; exact HDw6.out)
                have HLwa := Lib.hid (show Lst wa _ _ _ _ _ _ from by rw [hwa]; exact HLw6.out)
                have HTwa := Lib.hid (show Lst wa _ _ _ _ _ _ from by rw [hwa]; exact HTw6.out)
                have HNwa := Lib.hid (show Below w.heap.size w wa from by rw [hwa]; exact below_drewN HNw6.out qwa)
                rw [← hwa]
                clear hwa
                go_wp2_with fail
                refine (sameAll_any _ _ _ _ _ HLwa.out.pts HTwa.out.pts).mono ?_
                rintro e wbx ⟨rfl, qwb, rfl⟩
                rw [decide_eq_true c2]
                obtain ⟨wb, hwb⟩ : ∃ wb, wb = wa.drewN qwb := ⟨_, rfl⟩
                have HDwb := Lib.hid (show Dsk wb _ _ _ _ _ _ _ from by rw [hwb]; exact HDwa.out)
                have HLwb := Lib.hid (show Lst wb _ _ _ _ _ _ from by rw [hwb]; exact HLwa.out)
                have HTwb := Lib.hid (show Lst wb _ _ _ _ _ _ from by rw [hwb]; exact HTwa.out)
                have HNwb := Lib.hid (show Below w.heap.size w wb from by rw [hwb]; exact below_drewN HNwa.out qwb)
                rw [← hwb]
                clear hwb
                go_wp2_with fail
                refine (logSectors_any _ _ _ _ _ _ wb HDwb.out (by omega)).mono ?_
                rintro e wf ⟨vf, rfl, hdf, hlf, htf⟩
                have HPf := Lib.hid (show Pts wf vf (firsts F 64) from hlf.pts)
                have HLf := Lib.hid (HLwb.out.turns HDM.out htf)
                have HNf := Lib.hid (htf.fresh_ HNwb.out (Nat.le_refl _) (by omega) (Nat.le_refl _) (by omega))
                clear hdf hlf htf
                go_wp2_with fail
                refine (records_any vf (firsts F 64) 9 wf HPf.out (by rw [firsts_length]; exact Nat.le_refl _) (fun j hj => by rw [firsts_getD _ _ _ hj]; exact HFL.out j hj) (by omega)).mono ?_
                rintro e wg ⟨mg, vg, hsg, rfl, hlg, hbg⟩
                obtain rfl : mg = m := hsg.uniq HST.out (fun j hj => firsts_getD _ _ _ hj)
                rw [pays_congr (F' := F) (fun j hj => firsts_getD F 64 j (by have := HST.out.1; omega))] at hlg
                have HPg := Lib.hid hlg.pts
                have HQg := Lib.hid (HLf.out.turns HDM.out (Turns.of_below hbg (Nat.le_refl _))).pts
                have HNg := Lib.hid (HNf.out.trans (hbg.mono HNf.out.size))
                clear hsg hlg hbg
                go_wp2_with fail
                refine (sameAll_any _ _ _ _ _ HQg.out HPg.out).mono ?_
                rintro e wh ⟨rfl, qh, rfl⟩
                rw [decide_eq_true (rfl : pays F mg = pays F mg)]
                go_wp2
                go_ret
                exact ⟨by simp, below_drewN HNg.out qh⟩
              · have hor : 0 < T ∧ T < 64 := by
                  rcases HOR.out with h | h | h
                  · exact absurd h c1
                  · exact absurd h c2
                  · exact h
                have k1 : decide ((0 : Int) < T) = true := decide_eq_true hor.1
                have k2 : decide (T < (64 : Int)) = true := decide_eq_true hor.2
                clear hor
                go_wp2_with fail
                refine (sameAll_any _ _ _ _ _ HLw6.out.pts HNO6.out.pts).mono ?_
                rintro e wax ⟨rfl, qwa, rfl⟩
                rw [decide_eq_false c1]
                obtain ⟨wa, hwa⟩ : ∃ wa, wa = w6.drewN qwa := ⟨_, rfl⟩
                have HDwa := Lib.hid (show Dsk wa _ _ _ _ _ _ _ from by rw [hwa]; exact HDw6.out)
                have HLwa := Lib.hid (show Lst wa _ _ _ _ _ _ from by rw [hwa]; exact HLw6.out)
                have HTwa := Lib.hid (show Lst wa _ _ _ _ _ _ from by rw [hwa]; exact HTw6.out)
                have HNwa := Lib.hid (show Below w.heap.size w wa from by rw [hwa]; exact below_drewN HNw6.out qwa)
                rw [← hwa]
                clear hwa
                go_wp2_with fail
                refine (sameAll_any _ _ _ _ _ HLwa.out.pts HTwa.out.pts).mono ?_
                rintro e wbx ⟨rfl, qwb, rfl⟩
                rw [decide_eq_false c2]
                obtain ⟨wb, hwb⟩ : ∃ wb, wb = wa.drewN qwb := ⟨_, rfl⟩
                have HDwb := Lib.hid (show Dsk wb _ _ _ _ _ _ _ from by rw [hwb]; exact HDwa.out)
                have HLwb := Lib.hid (show Lst wb _ _ _ _ _ _ from by rw [hwb]; exact HLwa.out)
                have HTwb := Lib.hid (show Lst wb _ _ _ _ _ _ from by rw [hwb]; exact HTwa.out)
                have HNwb := Lib.hid (show Below w.heap.size w wb from by rw [hwb]; exact below_drewN HNwa.out qwb)
                rw [← hwb]
                clear hwb
                go_wp2_with fail
                refine (logSectors_any _ _ _ _ _ _ wb HDwb.out (by omega)).mono ?_
                rintro e wf ⟨vf, rfl, hdf, hlf, htf⟩
                have HPf := Lib.hid (show Pts wf vf (firsts F 64) from hlf.pts)
                have HLf := Lib.hid (HLwb.out.turns HDM.out htf)
                have HNf := Lib.hid (htf.fresh_ HNwb.out (Nat.le_refl _) (by omega) (Nat.le_refl _) (by omega))
                clear hdf hlf htf
                go_wp2_with fail
                refine (records_any vf (firsts F 64) 9 wf HPf.out (by rw [firsts_length]; exact Nat.le_refl _) (fun j hj => by rw [firsts_getD _ _ _ hj]; exact HFL.out j hj) (by omega)).mono ?_
                rintro e wg ⟨mg, vg, hsg, rfl, hlg, hbg⟩
                obtain rfl : mg = m := hsg.uniq HST.out (fun j hj => firsts_getD _ _ _ hj)
                rw [pays_congr (F' := F) (fun j hj => firsts_getD F 64 j (by have := HST.out.1; omega))] at hlg
                have HPg := Lib.hid hlg.pts
                have HQg := Lib.hid (HLf.out.turns HDM.out (Turns.of_below hbg (Nat.le_refl _))).pts
                have HNg := Lib.hid (HNf.out.trans (hbg.mono HNf.out.size))
                clear hsg hlg hbg
                go_wp2_with fail
                refine (sameAll_any _ _ _ _ _ HQg.out HPg.out).mono ?_
                rintro e wh ⟨rfl, qh, rfl⟩
                rw [decide_eq_true (rfl : pays F mg = pays F mg)]
                go_wp2
                go_ret
                exact ⟨by simp, below_drewN HNg.out qh⟩
          · have k0 : ((((fusT (f - 2 * i)).next.ans : Nat) : Int) != 0) = true := by rw [bne_iff_ne]; omega
            have hok := crashOK_loose (ks := xss.take i) (x := x) (by have := HKS.out; omega) HTI.out.2 HX50.out
            rw [HKS.out] at hok
            have HOK := Lib.hid hok
            have HD3 := Lib.hid hd3
            have HNO3 := Lib.hid (HNOc.out.turns (dk_base w) ht3)
            have HTH3 := Lib.hid (HTHc.out.turns (dk_base w) ht3)
            have HN3 := Lib.hid (ht3.fresh_ HNc.out (Nat.le_refl _) (by omega) (Nat.le_refl _) (by omega))
            clear hd3 ht3 hcellc hok
            go_wp2_with fail
            refine (dcrash_any _ _ _ _ _ _ _ K T tn w3 HD3.out HK.out HT.out).mono ?_
            rintro e w4 ⟨rfl, hd4, ht4⟩
            have hok := fun m => HOK.out K tn T m HT.out
            generalize hF : crashL _ _ _ tn = F at hd4 hok
            have HOKF := Lib.hid hok
            have HD4 := Lib.hid hd4
            have HNO4 := Lib.hid (HNO3.out.turns (dk_base w) ht4)
            have HTH4 := Lib.hid (HTH3.out.turns (dk_base w) ht4)
            have HN4 := Lib.hid (ht4.fresh_ HN3.out (Nat.le_refl _) (by omega) (Nat.le_refl _) (by omega))
            have HDM := Lib.hid (dk_lt hd4)
            have HFL := Lib.hid (show ∀ j, j < 64 → (F j).length = 64 from fun j hj => (hd4.last_ (show j < 192 by omega)).1)
            clear hd4 ht4 hok hF
            go_wp2_with fail
            refine (replay_ok _ _ _ _ _ _ 9 w4 HD4.out (by omega) (by omega)).mono ?_
            rintro e w5 ⟨m, v5, hs5, rfl, hl5, hd5, ht5⟩
            have HST := Lib.hid (show Stop F 9 m from hs5)
            have HL5 := Lib.hid (show Lst w5 (dk (w.heap.size + 2) w.heap.size (w.heap.size + 1)) 0 w4.heap.size 29 v5 (pays F m) from hl5)
            have HOR := Lib.hid (HOKF.out m hs5)
            have HNO5 := Lib.hid (HNO4.out.turns (dk_base w) ht5)
            have HTH5 := Lib.hid (HTH4.out.turns (dk_base w) ht5)
            have HD5 := Lib.hid (show Dsk w5 (w.heap.size + 2) w.heap.size (w.heap.size + 1) 192 F (fun _ => none) Tr.none_ from hd5)
            have HN5 := Lib.hid (ht5.fresh_ HN4.out (Nat.le_refl _) (by omega) (Nat.le_refl _) (by omega))
            clear hs5 hl5 hd5 ht5
            go_wp2_with fail
            refine (logAnswers_any _).mono ?_
            rintro e w6 ⟨rfl, hb6⟩
            have HLw6 := Lib.hid (HL5.out.turns HDM.out (Turns.of_below hb6 (Nat.le_refl _)))
            have HNO6 := Lib.hid (HNO5.out.turns (dk_base w) (Turns.of_below hb6 (Nat.le_refl _)))
            have HTw6 := Lib.hid (HTH5.out.turns (dk_base w) (Turns.of_below hb6 (Nat.le_refl _)))
            have HDw6 := Lib.hid (HD5.out.fresh hb6)
            have HNw6 := Lib.hid (HN5.out.trans (hb6.mono HN5.out.size))
            clear hb6
            by_cases c1 : pays F m = xss.take i
            · skip
              go_wp2_with fail
              refine (sameAll_any _ _ _ _ _ HLw6.out.pts HNO6.out.pts).mono ?_
              rintro e wax ⟨rfl, qwa, rfl⟩
              rw [decide_eq_true c1]
              obtain ⟨wa, hwa⟩ : ∃ wa, wa = w6.drewN qwa := ⟨_, rfl⟩
              have HDwa := Lib.hid (show Dsk wa _ _ _ _ _ _ _ from by rw [hwa]; exact HDw6.out)
              have HLwa := Lib.hid (show Lst wa _ _ _ _ _ _ from by rw [hwa]; exact HLw6.out)
              have HTwa := Lib.hid (show Lst wa _ _ _ _ _ _ from by rw [hwa]; exact HTw6.out)
              have HNwa := Lib.hid (show Below w.heap.size w wa from by rw [hwa]; exact below_drewN HNw6.out qwa)
              rw [← hwa]
              clear hwa
              go_wp2_with fail
              refine (logSectors_any _ _ _ _ _ _ wa HDwa.out (by omega)).mono ?_
              rintro e wf ⟨vf, rfl, hdf, hlf, htf⟩
              have HPf := Lib.hid (show Pts wf vf (firsts F 64) from hlf.pts)
              have HLf := Lib.hid (HLwa.out.turns HDM.out htf)
              have HNf := Lib.hid (htf.fresh_ HNwa.out (Nat.le_refl _) (by omega) (Nat.le_refl _) (by omega))
              clear hdf hlf htf
              go_wp2_with fail
              refine (records_any vf (firsts F 64) 9 wf HPf.out (by rw [firsts_length]; exact Nat.le_refl _) (fun j hj => by rw [firsts_getD _ _ _ hj]; exact HFL.out j hj) (by omega)).mono ?_
              rintro e wg ⟨mg, vg, hsg, rfl, hlg, hbg⟩
              obtain rfl : mg = m := hsg.uniq HST.out (fun j hj => firsts_getD _ _ _ hj)
              rw [pays_congr (F' := F) (fun j hj => firsts_getD F 64 j (by have := HST.out.1; omega))] at hlg
              have HPg := Lib.hid hlg.pts
              have HQg := Lib.hid (HLf.out.turns HDM.out (Turns.of_below hbg (Nat.le_refl _))).pts
              have HNg := Lib.hid (HNf.out.trans (hbg.mono HNf.out.size))
              clear hsg hlg hbg
              go_wp2_with fail
              refine (sameAll_any _ _ _ _ _ HQg.out HPg.out).mono ?_
              rintro e wh ⟨rfl, qh, rfl⟩
              rw [decide_eq_true (rfl : pays F mg = pays F mg)]
              go_wp2
              go_ret
              exact ⟨by simp, below_drewN HNg.out qh⟩
            · by_cases c2 : pays F m = xss.take i ++ [x]
              · skip
                go_wp2_with fail
                refine (sameAll_any _ _ _ _ _ HLw6.out.pts HNO6.out.pts).mono ?_
                rintro e wax ⟨rfl, qwa, rfl⟩
                rw [decide_eq_false c1]
                obtain ⟨wa, hwa⟩ : ∃ wa, wa = w6.drewN qwa := ⟨_, rfl⟩
                have HDwa := Lib.hid (show Dsk wa _ _ _ _ _ _ _ from by rw [hwa]; exact HDw6.out)
                have HLwa := Lib.hid (show Lst wa _ _ _ _ _ _ from by rw [hwa]; exact HLw6.out)
                have HTwa := Lib.hid (show Lst wa _ _ _ _ _ _ from by rw [hwa]; exact HTw6.out)
                have HNwa := Lib.hid (show Below w.heap.size w wa from by rw [hwa]; exact below_drewN HNw6.out qwa)
                rw [← hwa]
                clear hwa
                go_wp2_with fail
                refine (sameAll_any _ _ _ _ _ HLwa.out.pts HTwa.out.pts).mono ?_
                rintro e wbx ⟨rfl, qwb, rfl⟩
                rw [decide_eq_true c2]
                obtain ⟨wb, hwb⟩ : ∃ wb, wb = wa.drewN qwb := ⟨_, rfl⟩
                have HDwb := Lib.hid (show Dsk wb _ _ _ _ _ _ _ from by rw [hwb]; exact HDwa.out)
                have HLwb := Lib.hid (show Lst wb _ _ _ _ _ _ from by rw [hwb]; exact HLwa.out)
                have HTwb := Lib.hid (show Lst wb _ _ _ _ _ _ from by rw [hwb]; exact HTwa.out)
                have HNwb := Lib.hid (show Below w.heap.size w wb from by rw [hwb]; exact below_drewN HNwa.out qwb)
                rw [← hwb]
                clear hwb
                go_wp2_with fail
                refine (logSectors_any _ _ _ _ _ _ wb HDwb.out (by omega)).mono ?_
                rintro e wf ⟨vf, rfl, hdf, hlf, htf⟩
                have HPf := Lib.hid (show Pts wf vf (firsts F 64) from hlf.pts)
                have HLf := Lib.hid (HLwb.out.turns HDM.out htf)
                have HNf := Lib.hid (htf.fresh_ HNwb.out (Nat.le_refl _) (by omega) (Nat.le_refl _) (by omega))
                clear hdf hlf htf
                go_wp2_with fail
                refine (records_any vf (firsts F 64) 9 wf HPf.out (by rw [firsts_length]; exact Nat.le_refl _) (fun j hj => by rw [firsts_getD _ _ _ hj]; exact HFL.out j hj) (by omega)).mono ?_
                rintro e wg ⟨mg, vg, hsg, rfl, hlg, hbg⟩
                obtain rfl : mg = m := hsg.uniq HST.out (fun j hj => firsts_getD _ _ _ hj)
                rw [pays_congr (F' := F) (fun j hj => firsts_getD F 64 j (by have := HST.out.1; omega))] at hlg
                have HPg := Lib.hid hlg.pts
                have HQg := Lib.hid (HLf.out.turns HDM.out (Turns.of_below hbg (Nat.le_refl _))).pts
                have HNg := Lib.hid (HNf.out.trans (hbg.mono HNf.out.size))
                clear hsg hlg hbg
                go_wp2_with fail
                refine (sameAll_any _ _ _ _ _ HQg.out HPg.out).mono ?_
                rintro e wh ⟨rfl, qh, rfl⟩
                rw [decide_eq_true (rfl : pays F mg = pays F mg)]
                go_wp2
                go_ret
                exact ⟨by simp, below_drewN HNg.out qh⟩
              · have hor : 0 < T ∧ T < 64 := by
                  rcases HOR.out with h | h | h
                  · exact absurd h c1
                  · exact absurd h c2
                  · exact h
                have k1 : decide ((0 : Int) < T) = true := decide_eq_true hor.1
                have k2 : decide (T < (64 : Int)) = true := decide_eq_true hor.2
                clear hor
                go_wp2_with fail
                refine (sameAll_any _ _ _ _ _ HLw6.out.pts HNO6.out.pts).mono ?_
                rintro e wax ⟨rfl, qwa, rfl⟩
                rw [decide_eq_false c1]
                obtain ⟨wa, hwa⟩ : ∃ wa, wa = w6.drewN qwa := ⟨_, rfl⟩
                have HDwa := Lib.hid (show Dsk wa _ _ _ _ _ _ _ from by rw [hwa]; exact HDw6.out)
                have HLwa := Lib.hid (show Lst wa _ _ _ _ _ _ from by rw [hwa]; exact HLw6.out)
                have HTwa := Lib.hid (show Lst wa _ _ _ _ _ _ from by rw [hwa]; exact HTw6.out)
                have HNwa := Lib.hid (show Below w.heap.size w wa from by rw [hwa]; exact below_drewN HNw6.out qwa)
                rw [← hwa]
                clear hwa
                go_wp2_with fail
                refine (sameAll_any _ _ _ _ _ HLwa.out.pts HTwa.out.pts).mono ?_
                rintro e wbx ⟨rfl, qwb, rfl⟩
                rw [decide_eq_false c2]
                obtain ⟨wb, hwb⟩ : ∃ wb, wb = wa.drewN qwb := ⟨_, rfl⟩
                have HDwb := Lib.hid (show Dsk wb _ _ _ _ _ _ _ from by rw [hwb]; exact HDwa.out)
                have HLwb := Lib.hid (show Lst wb _ _ _ _ _ _ from by rw [hwb]; exact HLwa.out)
                have HTwb := Lib.hid (show Lst wb _ _ _ _ _ _ from by rw [hwb]; exact HTwa.out)
                have HNwb := Lib.hid (show Below w.heap.size w wb from by rw [hwb]; exact below_drewN HNwa.out qwb)
                rw [← hwb]
                clear hwb
                go_wp2_with fail
                refine (logSectors_any _ _ _ _ _ _ wb HDwb.out (by omega)).mono ?_
                rintro e wf ⟨vf, rfl, hdf, hlf, htf⟩
                have HPf := Lib.hid (show Pts wf vf (firsts F 64) from hlf.pts)
                have HLf := Lib.hid (HLwb.out.turns HDM.out htf)
                have HNf := Lib.hid (htf.fresh_ HNwb.out (Nat.le_refl _) (by omega) (Nat.le_refl _) (by omega))
                clear hdf hlf htf
                go_wp2_with fail
                refine (records_any vf (firsts F 64) 9 wf HPf.out (by rw [firsts_length]; exact Nat.le_refl _) (fun j hj => by rw [firsts_getD _ _ _ hj]; exact HFL.out j hj) (by omega)).mono ?_
                rintro e wg ⟨mg, vg, hsg, rfl, hlg, hbg⟩
                obtain rfl : mg = m := hsg.uniq HST.out (fun j hj => firsts_getD _ _ _ hj)
                rw [pays_congr (F' := F) (fun j hj => firsts_getD F 64 j (by have := HST.out.1; omega))] at hlg
                have HPg := Lib.hid hlg.pts
                have HQg := Lib.hid (HLf.out.turns HDM.out (Turns.of_below hbg (Nat.le_refl _))).pts
                have HNg := Lib.hid (HNf.out.trans (hbg.mono HNf.out.size))
                clear hsg hlg hbg
                go_wp2_with fail
                refine (sameAll_any _ _ _ _ _ HQg.out HPg.out).mono ?_
                rintro e wh ⟨rfl, qh, rfl⟩
                rw [decide_eq_true (rfl : pays F mg = pays F mg)]
                go_wp2
                go_ret
                exact ⟨by simp, below_drewN HNg.out qh⟩
          · have hlt2 : 2 ≤ f - 2 * i := by
              by_cases h1 : f - 2 * i = 0
              · rw [h1, fusT_ans0] at g1
                exact absurd g1 (by decide)
              · by_cases h2 : f - 2 * i = 1
                · rw [h2, fusT_next 1 (by omega)] at g2
                  exact absurd g2 (by decide)
                · omega
            have hd3' : Dsk w3 (w.heap.size + 2) w.heap.size (w.heap.size + 1) 192 (bkS 9 (xss.take (i + 1))) (fun _ => none) (fusT (f - 2 * (i + 1))) := by
              have h := hd3
              rw [fusT_next _ (by omega), fusT_next _ (by omega), last_none] at h
              have h2 := bkS_step 9 (xss.take i) x
              rw [HKS.out] at h2
              rw [h2, ← HTM.out, show f - 2 * i - 1 - 1 = f - 2 * (i + 1) by omega] at h
              exact h
            have HD3 := Lib.hid hd3'
            have HTH3 := Lib.hid (HTHc.out.turns (dk_base w) ht3)
            have HN3 := Lib.hid (ht3.fresh_ HNc.out (Nat.le_refl _) (by omega) (Nat.le_refl _) (by omega))
            have HL2 := Lib.hid (show 2 * (i + 1) ≤ f by omega)
            clear hd3 hd3' ht3 hcellc hlt2 g1 g2
            go_wp2_with fail
            go_roundg (N - (i + 1))
            case measure => omega
            case rel =>
              have hth : Lst w3 (dk (w.heap.size + 2) w.heap.size (w.heap.size + 1)) w.heap.size (w.heap.size + 3) 29 u11 (xss.take (i + 1)) := by
                rw [HTM.out]
                exact HTH3.out
              refine ⟨i + 1, by omega, by go_num, HL2.out, fun j hj => ?_, HD3.out, hth, hth, HN3.out⟩
              by_cases e : j = i
              · subst e
                rw [← HXE.out]
                exact HX50.out
              · exact HR.out.2.1 j (by omega)
    · obtain rfl : i = N := by omega
      have t4 : decide (((i : Nat) : Int) < (i : Int)) = false := decide_eq_false (by omega)
      obtain ⟨w3, rfl⟩ : ∃ w3, w3 = wr := ⟨_, rfl⟩
      have HKS := Lib.hid (show (xss.take i).length = i from HTI.out.1)
      have HD3 := Lib.hid HR.out.2.2.1
      have HNO3 := Lib.hid HR.out.2.2.2.1
      have HTH3 := Lib.hid HR.out.2.2.2.2.1
      have HN3 := Lib.hid HR.out.2.2.2.2.2
      have HOK := Lib.hid (show CrashOK (bkS 9 (xss.take i)) (fun _ => none) (xss.take i) (xss.take i) from crashOK_none (by have := HKS.out; omega) HTI.out.2)
      go_wp2_with fail
      refine (dcrash_any _ _ _ _ _ _ _ K T tn w3 HD3.out HK.out HT.out).mono ?_
      rintro e w4 ⟨rfl, hd4, ht4⟩
      have hok := fun m => HOK.out K tn T m HT.out
      generalize hF : crashL _ _ _ tn = F at hd4 hok
      have HOKF := Lib.hid hok
      have HD4 := Lib.hid hd4
      have HNO4 := Lib.hid (HNO3.out.turns (dk_base w) ht4)
      have HTH4 := Lib.hid (HTH3.out.turns (dk_base w) ht4)
      have HN4 := Lib.hid (ht4.fresh_ HN3.out (Nat.le_refl _) (by omega) (Nat.le_refl _) (by omega))
      have HDM := Lib.hid (dk_lt hd4)
      have HFL := Lib.hid (show ∀ j, j < 64 → (F j).length = 64 from fun j hj => (hd4.last_ (show j < 192 by omega)).1)
      clear hd4 ht4 hok hF
      go_wp2_with fail
      refine (replay_ok _ _ _ _ _ _ 9 w4 HD4.out (by omega) (by omega)).mono ?_
      rintro e w5 ⟨m, v5, hs5, rfl, hl5, hd5, ht5⟩
      have HST := Lib.hid (show Stop F 9 m from hs5)
      have HL5 := Lib.hid (show Lst w5 (dk (w.heap.size + 2) w.heap.size (w.heap.size + 1)) 0 w4.heap.size 29 v5 (pays F m) from hl5)
      have HOR := Lib.hid (HOKF.out m hs5)
      have HNO5 := Lib.hid (HNO4.out.turns (dk_base w) ht5)
      have HTH5 := Lib.hid (HTH4.out.turns (dk_base w) ht5)
      have HD5 := Lib.hid (show Dsk w5 (w.heap.size + 2) w.heap.size (w.heap.size + 1) 192 F (fun _ => none) Tr.none_ from hd5)
      have HN5 := Lib.hid (ht5.fresh_ HN4.out (Nat.le_refl _) (by omega) (Nat.le_refl _) (by omega))
      clear hs5 hl5 hd5 ht5
      go_wp2_with fail
      refine (logAnswers_any _).mono ?_
      rintro e w6 ⟨rfl, hb6⟩
      have HLw6 := Lib.hid (HL5.out.turns HDM.out (Turns.of_below hb6 (Nat.le_refl _)))
      have HNO6 := Lib.hid (HNO5.out.turns (dk_base w) (Turns.of_below hb6 (Nat.le_refl _)))
      have HTw6 := Lib.hid (HTH5.out.turns (dk_base w) (Turns.of_below hb6 (Nat.le_refl _)))
      have HDw6 := Lib.hid (HD5.out.fresh hb6)
      have HNw6 := Lib.hid (HN5.out.trans (hb6.mono HN5.out.size))
      clear hb6
      by_cases c1 : pays F m = xss.take i
      · skip
        go_wp2_with fail
        refine (sameAll_any _ _ _ _ _ HLw6.out.pts HNO6.out.pts).mono ?_
        rintro e wax ⟨rfl, qwa, rfl⟩
        rw [decide_eq_true c1]
        obtain ⟨wa, hwa⟩ : ∃ wa, wa = w6.drewN qwa := ⟨_, rfl⟩
        have HDwa := Lib.hid (show Dsk wa _ _ _ _ _ _ _ from by rw [hwa]; exact HDw6.out)
        have HLwa := Lib.hid (show Lst wa _ _ _ _ _ _ from by rw [hwa]; exact HLw6.out)
        have HTwa := Lib.hid (show Lst wa _ _ _ _ _ _ from by rw [hwa]; exact HTw6.out)
        have HNwa := Lib.hid (show Below w.heap.size w wa from by rw [hwa]; exact below_drewN HNw6.out qwa)
        rw [← hwa]
        clear hwa
        go_wp2_with fail
        refine (logSectors_any _ _ _ _ _ _ wa HDwa.out (by omega)).mono ?_
        rintro e wf ⟨vf, rfl, hdf, hlf, htf⟩
        have HPf := Lib.hid (show Pts wf vf (firsts F 64) from hlf.pts)
        have HLf := Lib.hid (HLwa.out.turns HDM.out htf)
        have HNf := Lib.hid (htf.fresh_ HNwa.out (Nat.le_refl _) (by omega) (Nat.le_refl _) (by omega))
        clear hdf hlf htf
        go_wp2_with fail
        refine (records_any vf (firsts F 64) 9 wf HPf.out (by rw [firsts_length]; exact Nat.le_refl _) (fun j hj => by rw [firsts_getD _ _ _ hj]; exact HFL.out j hj) (by omega)).mono ?_
        rintro e wg ⟨mg, vg, hsg, rfl, hlg, hbg⟩
        obtain rfl : mg = m := hsg.uniq HST.out (fun j hj => firsts_getD _ _ _ hj)
        rw [pays_congr (F' := F) (fun j hj => firsts_getD F 64 j (by have := HST.out.1; omega))] at hlg
        have HPg := Lib.hid hlg.pts
        have HQg := Lib.hid (HLf.out.turns HDM.out (Turns.of_below hbg (Nat.le_refl _))).pts
        have HNg := Lib.hid (HNf.out.trans (hbg.mono HNf.out.size))
        clear hsg hlg hbg
        go_wp2_with fail
        refine (sameAll_any _ _ _ _ _ HQg.out HPg.out).mono ?_
        rintro e wh ⟨rfl, qh, rfl⟩
        rw [decide_eq_true (rfl : pays F mg = pays F mg)]
        go_wp2
        go_ret
        exact ⟨by simp, below_drewN HNg.out qh⟩
      · by_cases c2 : pays F m = xss.take i
        · skip
          go_wp2_with fail
          refine (sameAll_any _ _ _ _ _ HLw6.out.pts HNO6.out.pts).mono ?_
          rintro e wax ⟨rfl, qwa, rfl⟩
          rw [decide_eq_false c1]
          obtain ⟨wa, hwa⟩ : ∃ wa, wa = w6.drewN qwa := ⟨_, rfl⟩
          have HDwa := Lib.hid (show Dsk wa _ _ _ _ _ _ _ from by rw [hwa]; exact HDw6.out)
          have HLwa := Lib.hid (show Lst wa _ _ _ _ _ _ from by rw [hwa]; exact HLw6.out)
          have HTwa := Lib.hid (show Lst wa _ _ _ _ _ _ from by rw [hwa]; exact HTw6.out)
          have HNwa := Lib.hid (show Below w.heap.size w wa from by rw [hwa]; exact below_drewN HNw6.out qwa)
          rw [← hwa]
          clear hwa
          go_wp2_with fail
          refine (sameAll_any _ _ _ _ _ HLwa.out.pts HTwa.out.pts).mono ?_
          rintro e wbx ⟨rfl, qwb, rfl⟩
          rw [decide_eq_true c2]
          obtain ⟨wb, hwb⟩ : ∃ wb, wb = wa.drewN qwb := ⟨_, rfl⟩
          have HDwb := Lib.hid (show Dsk wb _ _ _ _ _ _ _ from by rw [hwb]; exact HDwa.out)
          have HLwb := Lib.hid (show Lst wb _ _ _ _ _ _ from by rw [hwb]; exact HLwa.out)
          have HTwb := Lib.hid (show Lst wb _ _ _ _ _ _ from by rw [hwb]; exact HTwa.out)
          have HNwb := Lib.hid (show Below w.heap.size w wb from by rw [hwb]; exact below_drewN HNwa.out qwb)
          rw [← hwb]
          clear hwb
          go_wp2_with fail
          refine (logSectors_any _ _ _ _ _ _ wb HDwb.out (by omega)).mono ?_
          rintro e wf ⟨vf, rfl, hdf, hlf, htf⟩
          have HPf := Lib.hid (show Pts wf vf (firsts F 64) from hlf.pts)
          have HLf := Lib.hid (HLwb.out.turns HDM.out htf)
          have HNf := Lib.hid (htf.fresh_ HNwb.out (Nat.le_refl _) (by omega) (Nat.le_refl _) (by omega))
          clear hdf hlf htf
          go_wp2_with fail
          refine (records_any vf (firsts F 64) 9 wf HPf.out (by rw [firsts_length]; exact Nat.le_refl _) (fun j hj => by rw [firsts_getD _ _ _ hj]; exact HFL.out j hj) (by omega)).mono ?_
          rintro e wg ⟨mg, vg, hsg, rfl, hlg, hbg⟩
          obtain rfl : mg = m := hsg.uniq HST.out (fun j hj => firsts_getD _ _ _ hj)
          rw [pays_congr (F' := F) (fun j hj => firsts_getD F 64 j (by have := HST.out.1; omega))] at hlg
          have HPg := Lib.hid hlg.pts
          have HQg := Lib.hid (HLf.out.turns HDM.out (Turns.of_below hbg (Nat.le_refl _))).pts
          have HNg := Lib.hid (HNf.out.trans (hbg.mono HNf.out.size))
          clear hsg hlg hbg
          go_wp2_with fail
          refine (sameAll_any _ _ _ _ _ HQg.out HPg.out).mono ?_
          rintro e wh ⟨rfl, qh, rfl⟩
          rw [decide_eq_true (rfl : pays F mg = pays F mg)]
          go_wp2
          go_ret
          exact ⟨by simp, below_drewN HNg.out qh⟩
        · have hor : 0 < T ∧ T < 64 := by
            rcases HOR.out with h | h | h
            · exact absurd h c1
            · exact absurd h c2
            · exact h
          have k1 : decide ((0 : Int) < T) = true := decide_eq_true hor.1
          have k2 : decide (T < (64 : Int)) = true := decide_eq_true hor.2
          clear hor
          go_wp2_with fail
          refine (sameAll_any _ _ _ _ _ HLw6.out.pts HNO6.out.pts).mono ?_
          rintro e wax ⟨rfl, qwa, rfl⟩
          rw [decide_eq_false c1]
          obtain ⟨wa, hwa⟩ : ∃ wa, wa = w6.drewN qwa := ⟨_, rfl⟩
          have HDwa := Lib.hid (show Dsk wa _ _ _ _ _ _ _ from by rw [hwa]; exact HDw6.out)
          have HLwa := Lib.hid (show Lst wa _ _ _ _ _ _ from by rw [hwa]; exact HLw6.out)
          have HTwa := Lib.hid (show Lst wa _ _ _ _ _ _ from by rw [hwa]; exact HTw6.out)
          have HNwa := Lib.hid (show Below w.heap.size w wa from by rw [hwa]; exact below_drewN HNw6.out qwa)
          rw [← hwa]
          clear hwa
          go_wp2_with fail
          refine (sameAll_any _ _ _ _ _ HLwa.out.pts HTwa.out.pts).mono ?_
          rintro e wbx ⟨rfl, qwb, rfl⟩
          rw [decide_eq_false c2]
          obtain ⟨wb, hwb⟩ : ∃ wb, wb = wa.drewN qwb := ⟨_, rfl⟩
          have HDwb := Lib.hid (show Dsk wb _ _ _ _ _ _ _ from by rw [hwb]; exact HDwa.out)
          have HLwb := Lib.hid (show Lst wb _ _ _ _ _ _ from by rw [hwb]; exact HLwa.out)
          have HTwb := Lib.hid (show Lst wb _ _ _ _ _ _ from by rw [hwb]; exact HTwa.out)
          have HNwb := Lib.hid (show Below w.heap.size w wb from by rw [hwb]; exact below_drewN HNwa.out qwb)
          rw [← hwb]
          clear hwb
          go_wp2_with fail
          refine (logSectors_any _ _ _ _ _ _ wb HDwb.out (by omega)).mono ?_
          rintro e wf ⟨vf, rfl, hdf, hlf, htf⟩
          have HPf := Lib.hid (show Pts wf vf (firsts F 64) from hlf.pts)
          have HLf := Lib.hid (HLwb.out.turns HDM.out htf)
          have HNf := Lib.hid (htf.fresh_ HNwb.out (Nat.le_refl _) (by omega) (Nat.le_refl _) (by omega))
          clear hdf hlf htf
          go_wp2_with fail
          refine (records_any vf (firsts F 64) 9 wf HPf.out (by rw [firsts_length]; exact Nat.le_refl _) (fun j hj => by rw [firsts_getD _ _ _ hj]; exact HFL.out j hj) (by omega)).mono ?_
          rintro e wg ⟨mg, vg, hsg, rfl, hlg, hbg⟩
          obtain rfl : mg = m := hsg.uniq HST.out (fun j hj => firsts_getD _ _ _ hj)
          rw [pays_congr (F' := F) (fun j hj => firsts_getD F 64 j (by have := HST.out.1; omega))] at hlg
          have HPg := Lib.hid hlg.pts
          have HQg := Lib.hid (HLf.out.turns HDM.out (Turns.of_below hbg (Nat.le_refl _))).pts
          have HNg := Lib.hid (HNf.out.trans (hbg.mono HNf.out.size))
          clear hsg hlg hbg
          go_wp2_with fail
          refine (sameAll_any _ _ _ _ _ HQg.out HPg.out).mono ?_
          rintro e wh ⟨rfl, qh, rfl⟩
          rw [decide_eq_true (rfl : pays F mg = pays F mg)]
          go_wp2
          go_ret
          exact ⟨by simp, below_drewN HNg.out qh⟩
end Go.Proofs.Ythoolcnecphihaa
