/-
  SlotCrash answers true for any bytes, any Fail and Fuse, any bits and any tear, and writes nothing that was there.
  Conditions: the lists of bytes are read in memory.
-/
import Derived.Test.YtgjedofljojioaaSlotH
import Derived.Test.YtgjedofljojioaaDiskI
import Derived.Test.YtgjedofljojioaaRefLoad
import Derived.Test.YtgjedofljojioaaSloAll
import Derived.Deep.LoopGhost
namespace Go.Proofs.Ytgjedofljojioaa
open Go.RowKit
set_option linter.unusedVariables false

set_option maxRecDepth 20000 in
set_option maxHeartbeats 400000 in
theorem slotCrash_edge (A : Option Addr) (l c : Nat) (f n u K T : Int) (w : World) (h : 10 < l) :
    Calls Try.prog 4 #[.slice A l c, .int .i64 f, .int .i64 n, .int .i64 u, .int .u64 K, .int .i64 T] w fun e w' => e = .returned (.bool true) ∧ Below w.heap.size w w' := by
  have t1 : decide ((10 : Int) < (l : Int)) = true := decide_eq_true (by omega)
  clear h
  go_enter Try.func4, Try.ntmps4
  go_wp2_with fail
  refine (slotAnswers_any _).mono ?_
  rintro e w1 ⟨rfl, hb⟩
  go_wp2
  go_ret
  exact ⟨rfl, hb⟩

/-- What holds ahead of each round. -/
def CrsAt (w : World) (i : Nat) (v : Value) (wx : World) : Prop :=
  ∃ S t nw, Dsk wx (w.heap.size + 2) w.heap.size (w.heap.size + 1) 192 S (fun _ => none) t ∧ SInv S i nw ∧ Bts w w.heap.size v nw ∧ Below w.heap.size w wx
/-- What holds ahead of the Crash. -/
def CutAt (w : World) (g g2 : Nat) (vn vt : Value) (K tn : Nat) (wx : World) : Prop :=
  ∃ S L t nw th, Dsk wx (w.heap.size + 2) w.heap.size (w.heap.size + 1) 192 S L t ∧ Bts w w.heap.size vn nw ∧ Bts w w.heap.size vt th ∧ Below w.heap.size w wx ∧
    (tn = 0 ∨ tn = 64 → loadR (crashL S L (keptL (keysL 192 L) K) tn) = (g, nw) ∨ loadR (crashL S L (keptL (keysL 192 L) K) tn) = (g2, th))
theorem crash_none (S : Nat → List Nat) (K tn : Nat) : crashL S (fun _ => none) (keptL (keysL 192 (fun _ => none)) K) tn = S := by
  rw [keysL_none]
  rfl
theorem CrsAt.cut {w wx : World} {i K tn : Nat} {v : Value} (h : CrsAt w i v wx) : CutAt w i i v v K tn wx := by
  obtain ⟨S, t, nw, h1, h2, h3, h4⟩ := h
  exact ⟨S, _, t, nw, nw, h1, h3, h3, h4, fun _ => .inl (by rw [crash_none]; exact h2.self)⟩

set_option maxRecDepth 20000 in
set_option maxHeartbeats 6400000 in
theorem slotCrash_any (v0 : Value) (xss : List (List Nat)) (f n u : Int) (fa na ua K : Nat) (T : Int) (tn : Nat) (w : World) (h0 : Pts w v0 xss) (hl : xss.length ≤ 10) (hf : PosI f fa) (hn : PosI n na) (hu : PosI u ua) (hfa : fa ≤ 9223372036854775807) (hna : na ≤ 9223372036854775807) (hua : ua ≤ 9223372036854775807) (hK : K < 18446744073709551616) (hT : Near64 T tn) :
    Calls Try.prog 4 #[v0, .int .i64 f, .int .i64 n, .int .i64 u, .int .u64 (K : Int), .int .i64 T] w fun e w' => e = .returned (.bool true) ∧ Below w.heap.size w w' := by
  have H0 := Lib.hid h0
  obtain ⟨A, N, c, rfl, hN, hNc, hcm, -⟩ := h0
  have HN := Lib.hid hN
  have HK := Lib.hid hK
  have HT := Lib.hid hT
  have HF := Lib.hid hf
  have HNN := Lib.hid hn
  have HU := Lib.hid hu
  have HFA := Lib.hid hfa
  have HNA := Lib.hid hna
  have HUA := Lib.hid hua
  have hN10 : N ≤ 10 := by omega
  have t1 : decide ((10 : Int) < (N : Int)) = false := decide_eq_false (by omega)
  unfold maxLen at hcm
  clear hl hN hf hn hu hfa hna hua hK hT
  go_enter Try.func4, Try.ntmps4
  go_wp2_with fail
  refine (dnew_any 192 192 w (by unfold NearD; omega)).mono ?_
  rintro e w1 ⟨rfl, hd1, hb1, hz1⟩
  have HD1 := Lib.hid hd1
  have HN1 := Lib.hid hb1
  clear hd1 hb1 hz1
  go_wp2_with fail
  refine (fail_int _ _ _ _ _ _ _ f n fa na w1 HD1.out HF.out HNN.out HFA.out HNA.out).mono ?_
  rintro e w2 ⟨rfl, hd2, ho2⟩
  have HD2 := Lib.hid hd2
  have HN2 := Lib.hid ((show Turns (dk (w.heap.size + 2) w.heap.size (w.heap.size + 1)) w1 w2 from Turns.of_only ho2 (.inl rfl)).fresh_ HN1.out (Nat.le_refl _) (by omega) (Nat.le_refl _) (by omega))
  clear hd2 ho2
  go_wp2_with fail
  refine (fuse_int _ _ _ _ _ _ _ u ua w2 HD2.out HU.out HUA.out).mono ?_
  rintro e w3 ⟨rfl, hd3, ho3⟩
  have HS3 := Lib.hid (show CrsAt w 0 (.slice none 0 0) w3 from ⟨_, _, [], hd3, SInv.start, Bts.nil_ _ _, (show Turns (dk (w.heap.size + 2) w.heap.size (w.heap.size + 1)) w2 w3 from Turns.of_only ho3 (.inl rfl)).fresh_ HN2.out (Nat.le_refl _) (by omega) (Nat.le_refl _) (by omega)⟩)
  clear hd3 ho3
  go_wp2_with fail
  go_loopg [14, 15, 16, 17, 18] N (fun g s14 s15 s16 s17 s18 wx => ∃ i : Nat, i + g = N ∧ s18 = .int .i64 (i : Int) ∧ s16 = .int .u32 (i : Int) ∧ s17 = .int .u32 (i : Int) ∧ s15 = s14 ∧ CrsAt w i s14 wx)
  case atStart => exact ⟨0, by omega, rfl, rfl, rfl, rfl, HS3.out⟩
  case round =>
    obtain ⟨i, hig, rfl, rfl, rfl, rfl, hr⟩ := hrel
    have HR := Lib.hid hr
    obtain ⟨An, nn, cn, rfl⟩ : ∃ A n c, u15 = .slice A n c := by
      obtain ⟨_, _, _, _, _, ⟨A, n, c, e, _⟩, _⟩ := hr
      exact ⟨A, n, c, e⟩
    clear hr
    by_cases hlt : i < N
    · have t4 : decide ((i : Int) < (N : Int)) = true := decide_eq_true (by omega)
      have t5 : (i : Int) < (N : Int) := by omega
      have t6 : (0 : Int) ≤ (i : Int) := by omega
      obtain ⟨b, off, rfl⟩ := H0.out.addr (by omega)
      obtain ⟨uu, hc0, hu⟩ := H0.out.at_ (j := i) (by rw [HN.out]; exact hlt)
      obtain ⟨x, hx⟩ : ∃ x, x = xss.getD i [] := ⟨_, rfl⟩
      rw [← hx] at hu
      have HUX := Lib.hid hu
      have hcell : wr.cell? ⟨b, off + i, none⟩ = some uu := by
        obtain ⟨_, _, _, _, _, _, hb⟩ := HR.out
        exact (hb.cell (World.block_lt_of_cell? w _ hc0)).trans hc0
      obtain ⟨A2, n2, c2, rfl, hn2, -⟩ := hu
      have HX2 := Lib.hid hn2
      clear hc0 hx hn2
      by_cases h960 : 960 < n2
      · have t7 : decide ((960 : Int) < (n2 : Int)) = true := decide_eq_true (by omega)
        go_wp2_with fail
        refine (slotAnswers_any _).mono ?_
        rintro e w4 ⟨rfl, hb4⟩
        go_wp2
        go_ret
        obtain ⟨_, _, _, _, _, _, hb⟩ := HR.out
        exact ⟨rfl, hb.trans (hb4.mono hb.size)⟩
      · have t7 : decide ((960 : Int) < (n2 : Int)) = false := decide_eq_false (by omega)
        obtain ⟨i1, hi1⟩ : ∃ i1, i1 = i + 1 := ⟨_, rfl⟩
        have n1 : (i : Int) + 1 = (i1 : Int) := by omega
        have n2' : i1 ≤ 11 := by omega
        have HI1 := Lib.hid hi1
        obtain ⟨SS, tt, nw, hd, hinv, hvn, hb⟩ := HR.out
        have HD := Lib.hid hd
        have HI := Lib.hid hinv
        have HVN := Lib.hid hvn
        have HB := Lib.hid hb
        have HLX := Lib.hid (show x.length ≤ 960 by have := HX2.out; omega)
        have HST := Lib.hid (show Stay (w.heap.size + 2) w.heap.size (w.heap.size + 1) wr (.slice A2 n2 c2) x from Stay.below (HUX.out.below hb) hb.size (dk_lo w))
        have HSL := Lib.hid (fun f (hf : f < 192) => (hd.long hf).1)
        clear hi1 hd hinv hvn hb
        go_wp2_with fail
        refine (save_any _ _ _ _ SS (fun _ => none) tt i1 _ x wr HD.out (by omega) HST.out HLX.out (by omega)).mono ?_
        rintro e w4 hpost
        have hpost : (∃ z : Nat, z ≠ 0 ∧ e = .returned (.int .i64 (z : Int)) ∧ CutAt w i i1 (.slice An nn cn) (.slice A2 n2 c2) K tn w4) ∨ (e = .returned (.int .i64 0) ∧ CrsAt w i1 (.slice A2 n2 c2) w4) := by
          obtain ⟨ht, hh⟩ := hpost
          have hb4 := ht.fresh_ HB.out (Nat.le_refl _) (by omega) (Nat.le_refl _) (by omega)
          rw [last_none] at hh
          have e1 := HI1.out
          subst e1
          rcases hh with ⟨k, hk, _, h1, h2, h3⟩ | ⟨_, ⟨h1, h2, h3⟩ | ⟨_, h1, h2, h3⟩ | ⟨_, _, h2, h3⟩⟩
          · exact .inl ⟨_, h1, h2, SS, _, _, nw, x, h3, HVN.out, HUX.out, hb4, fun ht => .inl (cut_bytes HI.out HLX.out hk HSL.out ht)⟩
          · exact .inl ⟨_, h1, h2, _, _, _, nw, x, h3, HVN.out, HUX.out, hb4, fun ht => .inl (cut_head HI.out HLX.out HSL.out ht)⟩
          · exact .inl ⟨_, h1, h2, _, _, _, nw, x, h3, HVN.out, HUX.out, hb4, fun ht => cut_last HI.out HLX.out (by omega) HSL.out ht⟩
          · exact .inr ⟨h2, _, _, x, h3, HI.out.saved HLX.out (by omega), HUX.out, hb4⟩
        rcases hpost with ⟨z, hz, rfl, hcut⟩ | ⟨rfl, hcr⟩
        · have t8 : ((z : Int) != 0) = true := by rw [bne_iff_ne]; omega
          have HCUT := Lib.hid hcut
          clear hcut hz
          obtain ⟨SS, LL, tt, nw, th, hd4, hvn, hvt, hb4, hcl⟩ := HCUT.out
          have HD4 := Lib.hid hd4
          have HVN := Lib.hid hvn
          have HVT := Lib.hid hvt
          have HN4 := Lib.hid hb4
          have HCL := Lib.hid hcl
          clear hd4 hvn hvt hb4 hcl
          go_wp2_with fail
          refine (dcrash_any _ _ _ _ _ _ _ K T tn _ HD4.out HK.out HT.out).mono ?_
          rintro e w5 ⟨rfl, hd5, ht5⟩
          obtain ⟨FF, hff⟩ : ∃ FF, FF = crashL SS LL (keptL (keysL 192 LL) K) tn := ⟨_, rfl⟩
          rw [← hff] at hd5
          have HCF := Lib.hid HCL.out
          rw [← hff] at HCF
          have HD5 := Lib.hid hd5
          have HN5 := Lib.hid (ht5.fresh_ HN4.out (Nat.le_refl _) (by omega) (Nat.le_refl _) (by omega))
          clear hd5 ht5 hff
          go_wp2_with fail
          refine (load_ok _ _ _ _ _ _ _ HD5.out (by omega)).mono ?_
          rintro e w6 ⟨v6, rfl, ho6, hd6, ht6⟩
          rw [last_none] at ho6 ⊢
          obtain ⟨G, hG⟩ : ∃ G, G = (loadR FF).1 := ⟨_, rfl⟩
          obtain ⟨B, hB⟩ : ∃ B, B = (loadR FF).2 := ⟨_, rfl⟩
          rw [← hB] at ho6
          rw [← hG]
          have HFB := Lib.hid (fun f (hf : f < 96) => (HD5.out.long (f := f) (by omega)).2)
          have HBB := Lib.hid (show ∀ y ∈ B, y < 256 from by rw [hB]; exact loadR_byte HFB.out)
          have HO6 := Lib.hid (Bts.of_own ho6 HBB.out)
          obtain ⟨A6, c6, rfl⟩ := own_any ho6
          have HD6 := Lib.hid hd6
          have HN6 := Lib.hid (ht6.fresh_ HN5.out (Nat.le_refl _) (by omega) (Nat.le_refl _) (by omega))
          have HW6 := Lib.hid (show w.heap.size + 3 ≤ w6.heap.size by have := hd6.lt.1; omega)
          have HR6 := Lib.hid (own_lower (base' := w.heap.size + 3) ho6 (by have := HD5.out.lt.1; omega))
          have HGE := Lib.hid hG
          have HBE := Lib.hid hB
          have hGlt : G < 4294967296 := by
            rw [hG]
            exact loadN_lt (F := FF) (fun x hx => sloG_lt (HFB.out (64 + 16 * x) (by omega))) 2 (Nat.le_refl _)
          clear ho6 hd6 ht6 hG hB
          go_wp2_with fail
          refine (slotAll_any _ _ _ _ _ _ _ HD6.out (by omega)).mono ?_
          rintro e w7 ⟨v7, rfl, hd7, hl7, ht7⟩
          rw [last_none] at hl7
          have HD7 := Lib.hid hd7
          have HN7 := Lib.hid (ht7.fresh_ HN6.out (Nat.le_refl _) (by omega) (Nat.le_refl _) (by omega))
          have HR7 := Lib.hid (own_turns HR6.out (dk_base w) ht7)
          have HP7 := Lib.hid hl7.pts
          obtain ⟨A7, c7, rfl, -⟩ := hl7.shape
          clear hd7 hl7 ht7
          go_wp2_with fail
          refine (refLoad_any _ _ FF w7 HP7.out (firsts_length _ _) (fun j hj => firsts_getD _ _ _ hj) (fun j hj => (HD7.out.long (f := j) (by omega)).1) (fun j hj => (HD7.out.long (f := j) (by omega)).2)).mono ?_
          rintro e w8 ⟨hb8, v8, rfl, hx8⟩
          rw [← HGE.out]
          rw [← HBE.out] at hx8
          obtain ⟨A8, n8, c8, rfl, -⟩ := id hx8
          have HX8 := Lib.hid hx8
          have HN8 := Lib.hid (HN7.out.trans (hb8.mono HN7.out.size))
          have HR8 := Lib.hid ((Bts.of_own (own_below HR7.out hb8 (Nat.le_refl _)) HBB.out))
          have HVN8 := Lib.hid (HVN.out.below HN8.out)
          have HVT8 := Lib.hid (HVT.out.below HN8.out)
          clear hx8 hb8
          obtain ⟨T1, hT1⟩ : ∃ T1, T1 = decide (B = nw) := ⟨_, rfl⟩
          obtain ⟨T2, hT2⟩ : ∃ T2, T2 = decide (B = th) := ⟨_, rfl⟩
          have HT1 := Lib.hid hT1
          have HT2 := Lib.hid hT2
          have KNOWN := Lib.hid (show (G = i ∧ T1 = true) ∨ (G = i1 ∧ T2 = true) ∨ (0 < T ∧ T < 64) from by
            have e : loadR FF = (G, B) := by rw [HGE.out, HBE.out]
            have near := HT.out
            unfold Near64 at near
            by_cases c : tn = 0 ∨ tn = 64
            · rcases HCF.out c with h | h
              · rw [e] at h
                injection h with h1 h2
                exact .inl ⟨h1, by rw [hT1]; exact decide_eq_true h2⟩
              · rw [e] at h
                injection h with h1 h2
                exact .inr (.inl ⟨h1, by rw [hT2]; exact decide_eq_true h2⟩)
            · refine .inr (.inr ⟨?_, ?_⟩) <;> omega)
          have SAM1 := Lib.hid (fun (q : Nat) => same_any _ _ _ _ _ _ (w8.drewN q) (HR8.out.drewN (n := q)) (HVN8.out.drewN (n := q)))
          have SAM2 := Lib.hid (fun (q : Nat) => same_any _ _ _ _ _ _ (w8.drewN q) (HR8.out.drewN (n := q)) (HVT8.out.drewN (n := q)))
          have SAM1' := Lib.hid (same_any _ _ _ _ _ _ w8 HR8.out HVN8.out)
          have SAM2' := Lib.hid (same_any _ _ _ _ _ _ w8 HR8.out HVT8.out)
          rw [← hT1] at SAM1 SAM1'
          rw [← hT2] at SAM2 SAM2'
          clear hT1 hT2
          by_cases k1 : G = i
          · have d1 : ((G : Int) == (i : Int)) = true := by simp [k1]
            cases T1 with
            | true =>
              clear KNOWN
              have KN1 := Lib.hid k1
              clear k1
              try (have KN2 := Lib.hid k2; clear k2)
              go_wp2_with fail
              refine SAM1'.out.mono ?_
              rintro e w9 ⟨rfl, q0, rfl⟩
              go_wp2_with fail
              refine (slotAnswers_any _).mono ?_
              rintro e w10 ⟨rfl, hb10⟩
              have Y10 := Lib.hid ((show Bts (w8.drewN q0) w8.heap.size _ _ from HX8.out).below hb10)
              have Z10 := Lib.hid ((show Bts (w8.drewN q0) w8.heap.size _ _ from HR8.out).below hb10)
              have HN10 := Lib.hid ((show Below w.heap.size w (w8.drewN q0) from (below_drewN HN8.out q0)).trans (hb10.mono HN8.out.size))
              clear hb10
              go_wp2_with fail
              refine (same_any _ _ _ _ _ _ _ Z10.out Y10.out).mono ?_
              rintro e w11 ⟨rfl, q9, rfl⟩
              rw [decide_eq_true rfl]
              have HN11 := Lib.hid (below_drewN HN10.out q9)
              go_wp2
              go_ret
              exact ⟨by simp, HN11.out⟩
            | false =>
              by_cases k2 : G = i1
              · have d2 : ((G : Int) == (i1 : Int)) = true := by simp [k2]
                cases T2 with
                | true =>
                  clear KNOWN
                  have KN1 := Lib.hid k1
                  clear k1
                  try (have KN2 := Lib.hid k2; clear k2)
                  go_wp2_with fail
                  refine SAM1'.out.mono ?_
                  rintro e w9 ⟨rfl, q0, rfl⟩
                  go_wp2_with fail
                  refine (SAM2.out q0).mono ?_
                  rintro e w9 ⟨rfl, q1, rfl⟩
                  go_wp2_with fail
                  refine (slotAnswers_any _).mono ?_
                  rintro e w10 ⟨rfl, hb10⟩
                  have Y10 := Lib.hid ((show Bts (w8.drewN (q0 + q1)) w8.heap.size _ _ from HX8.out).below hb10)
                  have Z10 := Lib.hid ((show Bts (w8.drewN (q0 + q1)) w8.heap.size _ _ from HR8.out).below hb10)
                  have HN10 := Lib.hid ((show Below w.heap.size w (w8.drewN (q0 + q1)) from (below_drewN HN8.out (q0 + q1))).trans (hb10.mono HN8.out.size))
                  clear hb10
                  go_wp2_with fail
                  refine (same_any _ _ _ _ _ _ _ Z10.out Y10.out).mono ?_
                  rintro e w11 ⟨rfl, q9, rfl⟩
                  rw [decide_eq_true rfl]
                  have HN11 := Lib.hid (below_drewN HN10.out q9)
                  go_wp2
                  go_ret
                  exact ⟨by simp, HN11.out⟩
                | false =>
                  obtain ⟨ht0, ht64⟩ : 0 < T ∧ T < 64 := by
                    rcases KNOWN.out with ⟨h1, h2⟩ | ⟨h1, h2⟩ | h
                    · first | exact absurd h1 (by assumption) | cases h2
                    · first | exact absurd h1 (by assumption) | cases h2
                    · exact h
                  have t9 : decide ((0 : Int) < T) = true := decide_eq_true ht0
                  have t10 : decide (T < (64 : Int)) = true := decide_eq_true ht64
                  clear KNOWN
                  have KN1 := Lib.hid k1
                  clear k1
                  try (have KN2 := Lib.hid k2; clear k2)
                  go_wp2_with fail
                  refine SAM1'.out.mono ?_
                  rintro e w9 ⟨rfl, q0, rfl⟩
                  go_wp2_with fail
                  refine (SAM2.out q0).mono ?_
                  rintro e w9 ⟨rfl, q1, rfl⟩
                  go_wp2_with fail
                  refine (slotAnswers_any _).mono ?_
                  rintro e w10 ⟨rfl, hb10⟩
                  have Y10 := Lib.hid ((show Bts (w8.drewN (q0 + q1)) w8.heap.size _ _ from HX8.out).below hb10)
                  have Z10 := Lib.hid ((show Bts (w8.drewN (q0 + q1)) w8.heap.size _ _ from HR8.out).below hb10)
                  have HN10 := Lib.hid ((show Below w.heap.size w (w8.drewN (q0 + q1)) from (below_drewN HN8.out (q0 + q1))).trans (hb10.mono HN8.out.size))
                  clear hb10
                  go_wp2_with fail
                  refine (same_any _ _ _ _ _ _ _ Z10.out Y10.out).mono ?_
                  rintro e w11 ⟨rfl, q9, rfl⟩
                  rw [decide_eq_true rfl]
                  have HN11 := Lib.hid (below_drewN HN10.out q9)
                  go_wp2
                  go_ret
                  exact ⟨by simp, HN11.out⟩
              · have d2 : ((G : Int) == (i1 : Int)) = false := by simp; omega
                obtain ⟨ht0, ht64⟩ : 0 < T ∧ T < 64 := by
                  rcases KNOWN.out with ⟨h1, h2⟩ | ⟨h1, h2⟩ | h
                  · first | exact absurd h1 (by assumption) | cases h2
                  · first | exact absurd h1 (by assumption) | cases h2
                  · exact h
                have t9 : decide ((0 : Int) < T) = true := decide_eq_true ht0
                have t10 : decide (T < (64 : Int)) = true := decide_eq_true ht64
                clear KNOWN
                have KN1 := Lib.hid k1
                clear k1
                try (have KN2 := Lib.hid k2; clear k2)
                go_wp2_with fail
                refine SAM1'.out.mono ?_
                rintro e w9 ⟨rfl, q0, rfl⟩
                go_wp2_with fail
                refine (slotAnswers_any _).mono ?_
                rintro e w10 ⟨rfl, hb10⟩
                have Y10 := Lib.hid ((show Bts (w8.drewN q0) w8.heap.size _ _ from HX8.out).below hb10)
                have Z10 := Lib.hid ((show Bts (w8.drewN q0) w8.heap.size _ _ from HR8.out).below hb10)
                have HN10 := Lib.hid ((show Below w.heap.size w (w8.drewN q0) from (below_drewN HN8.out q0)).trans (hb10.mono HN8.out.size))
                clear hb10
                go_wp2_with fail
                refine (same_any _ _ _ _ _ _ _ Z10.out Y10.out).mono ?_
                rintro e w11 ⟨rfl, q9, rfl⟩
                rw [decide_eq_true rfl]
                have HN11 := Lib.hid (below_drewN HN10.out q9)
                go_wp2
                go_ret
                exact ⟨by simp, HN11.out⟩
          · have d1 : ((G : Int) == (i : Int)) = false := by simp; omega
            by_cases k2 : G = i1
            · have d2 : ((G : Int) == (i1 : Int)) = true := by simp [k2]
              cases T2 with
              | true =>
                clear KNOWN
                have KN1 := Lib.hid k1
                clear k1
                try (have KN2 := Lib.hid k2; clear k2)
                go_wp2_with fail
                refine SAM2'.out.mono ?_
                rintro e w9 ⟨rfl, q0, rfl⟩
                go_wp2_with fail
                refine (slotAnswers_any _).mono ?_
                rintro e w10 ⟨rfl, hb10⟩
                have Y10 := Lib.hid ((show Bts (w8.drewN q0) w8.heap.size _ _ from HX8.out).below hb10)
                have Z10 := Lib.hid ((show Bts (w8.drewN q0) w8.heap.size _ _ from HR8.out).below hb10)
                have HN10 := Lib.hid ((show Below w.heap.size w (w8.drewN q0) from (below_drewN HN8.out q0)).trans (hb10.mono HN8.out.size))
                clear hb10
                go_wp2_with fail
                refine (same_any _ _ _ _ _ _ _ Z10.out Y10.out).mono ?_
                rintro e w11 ⟨rfl, q9, rfl⟩
                rw [decide_eq_true rfl]
                have HN11 := Lib.hid (below_drewN HN10.out q9)
                go_wp2
                go_ret
                exact ⟨by simp, HN11.out⟩
              | false =>
                obtain ⟨ht0, ht64⟩ : 0 < T ∧ T < 64 := by
                  rcases KNOWN.out with ⟨h1, h2⟩ | ⟨h1, h2⟩ | h
                  · first | exact absurd h1 (by assumption) | cases h2
                  · first | exact absurd h1 (by assumption) | cases h2
                  · exact h
                have t9 : decide ((0 : Int) < T) = true := decide_eq_true ht0
                have t10 : decide (T < (64 : Int)) = true := decide_eq_true ht64
                clear KNOWN
                have KN1 := Lib.hid k1
                clear k1
                try (have KN2 := Lib.hid k2; clear k2)
                go_wp2_with fail
                refine SAM2'.out.mono ?_
                rintro e w9 ⟨rfl, q0, rfl⟩
                go_wp2_with fail
                refine (slotAnswers_any _).mono ?_
                rintro e w10 ⟨rfl, hb10⟩
                have Y10 := Lib.hid ((show Bts (w8.drewN q0) w8.heap.size _ _ from HX8.out).below hb10)
                have Z10 := Lib.hid ((show Bts (w8.drewN q0) w8.heap.size _ _ from HR8.out).below hb10)
                have HN10 := Lib.hid ((show Below w.heap.size w (w8.drewN q0) from (below_drewN HN8.out q0)).trans (hb10.mono HN8.out.size))
                clear hb10
                go_wp2_with fail
                refine (same_any _ _ _ _ _ _ _ Z10.out Y10.out).mono ?_
                rintro e w11 ⟨rfl, q9, rfl⟩
                rw [decide_eq_true rfl]
                have HN11 := Lib.hid (below_drewN HN10.out q9)
                go_wp2
                go_ret
                exact ⟨by simp, HN11.out⟩
            · have d2 : ((G : Int) == (i1 : Int)) = false := by simp; omega
              obtain ⟨ht0, ht64⟩ : 0 < T ∧ T < 64 := by
                rcases KNOWN.out with ⟨h1, h2⟩ | ⟨h1, h2⟩ | h
                · first | exact absurd h1 (by assumption) | cases h2
                · first | exact absurd h1 (by assumption) | cases h2
                · exact h
              have t9 : decide ((0 : Int) < T) = true := decide_eq_true ht0
              have t10 : decide (T < (64 : Int)) = true := decide_eq_true ht64
              clear KNOWN
              have KN1 := Lib.hid k1
              clear k1
              try (have KN2 := Lib.hid k2; clear k2)
              go_wp2_with fail
              refine (slotAnswers_any _).mono ?_
              rintro e w10 ⟨rfl, hb10⟩
              have Y10 := Lib.hid ((show Bts w8 w8.heap.size _ _ from HX8.out).below hb10)
              have Z10 := Lib.hid ((show Bts w8 w8.heap.size _ _ from HR8.out).below hb10)
              have HN10 := Lib.hid ((show Below w.heap.size w w8 from HN8.out).trans (hb10.mono HN8.out.size))
              clear hb10
              go_wp2_with fail
              refine (same_any _ _ _ _ _ _ _ Z10.out Y10.out).mono ?_
              rintro e w11 ⟨rfl, q9, rfl⟩
              rw [decide_eq_true rfl]
              have HN11 := Lib.hid (below_drewN HN10.out q9)
              go_wp2
              go_ret
              exact ⟨by simp, HN11.out⟩
        · have HCR := Lib.hid hcr
          clear hcr
          go_wp2_with fail
          go_roundg (N - i1)
          case measure => have := HI1.out; omega
          case rel => exact ⟨i1, by have := HI1.out; omega, rfl, rfl, rfl, rfl, HCR.out⟩
    · obtain rfl : i = N := by omega
      have t4 : decide ((i : Int) < (i : Int)) = false := decide_eq_false (by omega)
      have HCUT := Lib.hid (CrsAt.cut (K := K) (tn := tn) HR.out)
      obtain ⟨SS, LL, tt, nw, th, hd4, hvn, hvt, hb4, hcl⟩ := HCUT.out
      have HD4 := Lib.hid hd4
      have HVN := Lib.hid hvn
      have HVT := Lib.hid hvt
      have HN4 := Lib.hid hb4
      have HCL := Lib.hid hcl
      clear hd4 hvn hvt hb4 hcl
      go_wp2_with fail
      refine (dcrash_any _ _ _ _ _ _ _ K T tn _ HD4.out HK.out HT.out).mono ?_
      rintro e w5 ⟨rfl, hd5, ht5⟩
      obtain ⟨FF, hff⟩ : ∃ FF, FF = crashL SS LL (keptL (keysL 192 LL) K) tn := ⟨_, rfl⟩
      rw [← hff] at hd5
      have HCF := Lib.hid HCL.out
      rw [← hff] at HCF
      have HD5 := Lib.hid hd5
      have HN5 := Lib.hid (ht5.fresh_ HN4.out (Nat.le_refl _) (by omega) (Nat.le_refl _) (by omega))
      clear hd5 ht5 hff
      go_wp2_with fail
      refine (load_ok _ _ _ _ _ _ _ HD5.out (by omega)).mono ?_
      rintro e w6 ⟨v6, rfl, ho6, hd6, ht6⟩
      rw [last_none] at ho6 ⊢
      obtain ⟨G, hG⟩ : ∃ G, G = (loadR FF).1 := ⟨_, rfl⟩
      obtain ⟨B, hB⟩ : ∃ B, B = (loadR FF).2 := ⟨_, rfl⟩
      rw [← hB] at ho6
      rw [← hG]
      have HFB := Lib.hid (fun f (hf : f < 96) => (HD5.out.long (f := f) (by omega)).2)
      have HBB := Lib.hid (show ∀ y ∈ B, y < 256 from by rw [hB]; exact loadR_byte HFB.out)
      have HO6 := Lib.hid (Bts.of_own ho6 HBB.out)
      obtain ⟨A6, c6, rfl⟩ := own_any ho6
      have HD6 := Lib.hid hd6
      have HN6 := Lib.hid (ht6.fresh_ HN5.out (Nat.le_refl _) (by omega) (Nat.le_refl _) (by omega))
      have HW6 := Lib.hid (show w.heap.size + 3 ≤ w6.heap.size by have := hd6.lt.1; omega)
      have HR6 := Lib.hid (own_lower (base' := w.heap.size + 3) ho6 (by have := HD5.out.lt.1; omega))
      have HGE := Lib.hid hG
      have HBE := Lib.hid hB
      have hGlt : G < 4294967296 := by
        rw [hG]
        exact loadN_lt (F := FF) (fun x hx => sloG_lt (HFB.out (64 + 16 * x) (by omega))) 2 (Nat.le_refl _)
      clear ho6 hd6 ht6 hG hB
      go_wp2_with fail
      refine (slotAll_any _ _ _ _ _ _ _ HD6.out (by omega)).mono ?_
      rintro e w7 ⟨v7, rfl, hd7, hl7, ht7⟩
      rw [last_none] at hl7
      have HD7 := Lib.hid hd7
      have HN7 := Lib.hid (ht7.fresh_ HN6.out (Nat.le_refl _) (by omega) (Nat.le_refl _) (by omega))
      have HR7 := Lib.hid (own_turns HR6.out (dk_base w) ht7)
      have HP7 := Lib.hid hl7.pts
      obtain ⟨A7, c7, rfl, -⟩ := hl7.shape
      clear hd7 hl7 ht7
      go_wp2_with fail
      refine (refLoad_any _ _ FF w7 HP7.out (firsts_length _ _) (fun j hj => firsts_getD _ _ _ hj) (fun j hj => (HD7.out.long (f := j) (by omega)).1) (fun j hj => (HD7.out.long (f := j) (by omega)).2)).mono ?_
      rintro e w8 ⟨hb8, v8, rfl, hx8⟩
      rw [← HGE.out]
      rw [← HBE.out] at hx8
      obtain ⟨A8, n8, c8, rfl, -⟩ := id hx8
      have HX8 := Lib.hid hx8
      have HN8 := Lib.hid (HN7.out.trans (hb8.mono HN7.out.size))
      have HR8 := Lib.hid ((Bts.of_own (own_below HR7.out hb8 (Nat.le_refl _)) HBB.out))
      have HVN8 := Lib.hid (HVN.out.below HN8.out)
      have HVT8 := Lib.hid (HVT.out.below HN8.out)
      clear hx8 hb8
      obtain ⟨T1, hT1⟩ : ∃ T1, T1 = decide (B = nw) := ⟨_, rfl⟩
      obtain ⟨T2, hT2⟩ : ∃ T2, T2 = decide (B = th) := ⟨_, rfl⟩
      have HT1 := Lib.hid hT1
      have HT2 := Lib.hid hT2
      have KNOWN := Lib.hid (show (G = i ∧ T1 = true) ∨ (G = i ∧ T2 = true) ∨ (0 < T ∧ T < 64) from by
        have e : loadR FF = (G, B) := by rw [HGE.out, HBE.out]
        have near := HT.out
        unfold Near64 at near
        by_cases c : tn = 0 ∨ tn = 64
        · rcases HCF.out c with h | h
          · rw [e] at h
            injection h with h1 h2
            exact .inl ⟨h1, by rw [hT1]; exact decide_eq_true h2⟩
          · rw [e] at h
            injection h with h1 h2
            exact .inr (.inl ⟨h1, by rw [hT2]; exact decide_eq_true h2⟩)
        · refine .inr (.inr ⟨?_, ?_⟩) <;> omega)
      have SAM1 := Lib.hid (fun (q : Nat) => same_any _ _ _ _ _ _ (w8.drewN q) (HR8.out.drewN (n := q)) (HVN8.out.drewN (n := q)))
      have SAM2 := Lib.hid (fun (q : Nat) => same_any _ _ _ _ _ _ (w8.drewN q) (HR8.out.drewN (n := q)) (HVT8.out.drewN (n := q)))
      have SAM1' := Lib.hid (same_any _ _ _ _ _ _ w8 HR8.out HVN8.out)
      have SAM2' := Lib.hid (same_any _ _ _ _ _ _ w8 HR8.out HVT8.out)
      rw [← hT1] at SAM1 SAM1'
      rw [← hT2] at SAM2 SAM2'
      clear hT1 hT2
      by_cases k1 : G = i
      · have d1 : ((G : Int) == (i : Int)) = true := by simp [k1]
        cases T1 with
        | true =>
          clear KNOWN
          have KN1 := Lib.hid k1
          clear k1
          go_wp2_with fail
          refine SAM1'.out.mono ?_
          rintro e w9 ⟨rfl, q0, rfl⟩
          go_wp2_with fail
          refine (slotAnswers_any _).mono ?_
          rintro e w10 ⟨rfl, hb10⟩
          have Y10 := Lib.hid ((show Bts (w8.drewN q0) w8.heap.size _ _ from HX8.out).below hb10)
          have Z10 := Lib.hid ((show Bts (w8.drewN q0) w8.heap.size _ _ from HR8.out).below hb10)
          have HN10 := Lib.hid ((show Below w.heap.size w (w8.drewN q0) from (below_drewN HN8.out q0)).trans (hb10.mono HN8.out.size))
          clear hb10
          go_wp2_with fail
          refine (same_any _ _ _ _ _ _ _ Z10.out Y10.out).mono ?_
          rintro e w11 ⟨rfl, q9, rfl⟩
          rw [decide_eq_true rfl]
          have HN11 := Lib.hid (below_drewN HN10.out q9)
          go_wp2
          go_ret
          exact ⟨by simp, HN11.out⟩
        | false =>
          cases T2 with
          | true =>
            clear KNOWN
            have KN1 := Lib.hid k1
            clear k1
            go_wp2_with fail
            refine SAM1'.out.mono ?_
            rintro e w9 ⟨rfl, q0, rfl⟩
            go_wp2_with fail
            refine (SAM2.out q0).mono ?_
            rintro e w9 ⟨rfl, q1, rfl⟩
            go_wp2_with fail
            refine (slotAnswers_any _).mono ?_
            rintro e w10 ⟨rfl, hb10⟩
            have Y10 := Lib.hid ((show Bts (w8.drewN (q0 + q1)) w8.heap.size _ _ from HX8.out).below hb10)
            have Z10 := Lib.hid ((show Bts (w8.drewN (q0 + q1)) w8.heap.size _ _ from HR8.out).below hb10)
            have HN10 := Lib.hid ((show Below w.heap.size w (w8.drewN (q0 + q1)) from (below_drewN HN8.out (q0 + q1))).trans (hb10.mono HN8.out.size))
            clear hb10
            go_wp2_with fail
            refine (same_any _ _ _ _ _ _ _ Z10.out Y10.out).mono ?_
            rintro e w11 ⟨rfl, q9, rfl⟩
            rw [decide_eq_true rfl]
            have HN11 := Lib.hid (below_drewN HN10.out q9)
            go_wp2
            go_ret
            exact ⟨by simp, HN11.out⟩
          | false =>
            obtain ⟨ht0, ht64⟩ : 0 < T ∧ T < 64 := by
              rcases KNOWN.out with ⟨h1, h2⟩ | ⟨h1, h2⟩ | h
              · first | exact absurd h1 (by assumption) | cases h2
              · first | exact absurd h1 (by assumption) | cases h2
              · exact h
            have t9 : decide ((0 : Int) < T) = true := decide_eq_true ht0
            have t10 : decide (T < (64 : Int)) = true := decide_eq_true ht64
            clear KNOWN
            have KN1 := Lib.hid k1
            clear k1
            go_wp2_with fail
            refine SAM1'.out.mono ?_
            rintro e w9 ⟨rfl, q0, rfl⟩
            go_wp2_with fail
            refine (SAM2.out q0).mono ?_
            rintro e w9 ⟨rfl, q1, rfl⟩
            go_wp2_with fail
            refine (slotAnswers_any _).mono ?_
            rintro e w10 ⟨rfl, hb10⟩
            have Y10 := Lib.hid ((show Bts (w8.drewN (q0 + q1)) w8.heap.size _ _ from HX8.out).below hb10)
            have Z10 := Lib.hid ((show Bts (w8.drewN (q0 + q1)) w8.heap.size _ _ from HR8.out).below hb10)
            have HN10 := Lib.hid ((show Below w.heap.size w (w8.drewN (q0 + q1)) from (below_drewN HN8.out (q0 + q1))).trans (hb10.mono HN8.out.size))
            clear hb10
            go_wp2_with fail
            refine (same_any _ _ _ _ _ _ _ Z10.out Y10.out).mono ?_
            rintro e w11 ⟨rfl, q9, rfl⟩
            rw [decide_eq_true rfl]
            have HN11 := Lib.hid (below_drewN HN10.out q9)
            go_wp2
            go_ret
            exact ⟨by simp, HN11.out⟩
      · have d1 : ((G : Int) == (i : Int)) = false := by simp; omega
        obtain ⟨ht0, ht64⟩ : 0 < T ∧ T < 64 := by
          rcases KNOWN.out with ⟨h1, h2⟩ | ⟨h1, h2⟩ | h
          · first | exact absurd h1 (by assumption) | cases h2
          · first | exact absurd h1 (by assumption) | cases h2
          · exact h
        have t9 : decide ((0 : Int) < T) = true := decide_eq_true ht0
        have t10 : decide (T < (64 : Int)) = true := decide_eq_true ht64
        clear KNOWN
        have KN1 := Lib.hid k1
        clear k1
        go_wp2_with fail
        refine (slotAnswers_any _).mono ?_
        rintro e w10 ⟨rfl, hb10⟩
        have Y10 := Lib.hid ((show Bts w8 w8.heap.size _ _ from HX8.out).below hb10)
        have Z10 := Lib.hid ((show Bts w8 w8.heap.size _ _ from HR8.out).below hb10)
        have HN10 := Lib.hid ((show Below w.heap.size w w8 from HN8.out).trans (hb10.mono HN8.out.size))
        clear hb10
        go_wp2_with fail
        refine (same_any _ _ _ _ _ _ _ Z10.out Y10.out).mono ?_
        rintro e w11 ⟨rfl, q9, rfl⟩
        rw [decide_eq_true rfl]
        have HN11 := Lib.hid (below_drewN HN10.out q9)
        go_wp2
        go_ret
        exact ⟨by simp, HN11.out⟩
end Go.Proofs.Ytgjedofljojioaa
