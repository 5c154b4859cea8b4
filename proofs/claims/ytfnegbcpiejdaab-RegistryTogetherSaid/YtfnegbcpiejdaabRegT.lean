/-
  RegistryTogether answers true for any frames, any Fuse and any bits, and writes nothing that was there.
  Conditions: the frames are read in memory.
-/
import Derived.Test.YtfnegbcpiejdaabRegL
import Derived.Deep.LoopGhost
import Derived.BigQuiet
namespace Go.Proofs.Ytfnegbcpiejdaab
open Go.RowKit
set_option linter.unusedVariables false

set_option maxRecDepth 20000 in
set_option maxHeartbeats 400000 in
theorem registryTogether_edge (A : Option Addr) (l c : Nat) (u K : Int) (w : World) (h : 20 < l) :
    Calls Try.prog 8 #[.slice A l c, .int .u8 u, .int .u64 K] w fun e w' => e = .returned (.bool true) ∧ Below w.heap.size w w' := by
  have t1 : decide ((20 : Int) < (l : Int)) = true := decide_eq_true (by omega)
  clear h
  go_enter Try.func8, Try.ntmps8
  go_wp2_with fail
  refine (regAnswers_any _).mono ?_
  rintro e w1 ⟨rfl, hb⟩
  go_wp2
  go_ret
  exact ⟨rfl, hb⟩

theorem take_mem_succ {l : List Int} {k : Nat} {y : Int} (h : k < l.length) : decide (y ∈ l.take (k + 1)) = (decide (y ∈ l.take k) || decide (l.getD k 0 = y)) := by
  have e : l.getD k 0 = l[k] := by simp [h]
  have e2 : l.take (k + 1) = l.take k ++ [l[k]] := by rw [List.take_add_one, List.getElem?_eq_getElem h]; rfl
  rw [e, e2]
  by_cases c : y ∈ l.take k
  · rw [decide_eq_true c, decide_eq_true (List.mem_append_left _ c)]; rfl
  · by_cases d : l[k] = y
    · rw [decide_eq_false c, decide_eq_true d, decide_eq_true (List.mem_append_right _ (List.mem_singleton.2 d.symm))]; rfl
    · rw [decide_eq_false c, decide_eq_false d, decide_eq_false]
      · rfl
      · intro hm
        rcases List.mem_append.1 hm with hm | hm
        · exact c hm
        · exact d (List.mem_singleton.1 hm).symm
/-- What is found behind the crash, and what was answered. -/
theorem together_facts {fs : List Int} {c : MD} {z : Nat} (hv : ∀ f ∈ fs, 0 ≤ f ∧ f ≤ 1023) (h : (z = 0 ∧ addM md0 (fs.map Int.toNat) = md0 ∧ c = md0) ∨ (z = 0 ∧ addM md0 (fs.map Int.toNat) ≠ md0 ∧ c = addM md0 (fs.map Int.toNat)) ∨ (z ≠ 0 ∧ (c = md0 ∨ c = addM md0 (fs.map Int.toNat)))) :
    (badI c = [] ∨ ∀ f ∈ fs, f ∈ badI c) ∧ (badI c).length ≤ fs.length ∧ (z ≠ 0 ∨ fs = [] ∨ badI c ≠ []) := by
  have h0 : badI md0 = [] := by unfold badI; rw [bads_md0]; rfl
  have hin : ∀ f ∈ fs, f ∈ badI (addM md0 (fs.map Int.toNat)) := by
    intro f hf
    have := hv f hf
    exact List.mem_map.2 ⟨f.toNat, mem_bads (by omega) (addM_has md0_ok (List.mem_map.2 ⟨f, hf, rfl⟩) (by omega)), by omega⟩
  have hlen : (badI (addM md0 (fs.map Int.toNat))).length ≤ fs.length := by
    have h1 := addM_le md0 (fs.map Int.toNat) 1024
    rw [bads_md0] at h1
    unfold badI
    rw [List.length_map]
    simpa using h1
  have hone : addM md0 (fs.map Int.toNat) = md0 → fs = [] := by
    intro e
    refine List.eq_nil_iff_forall_not_mem.2 fun f hf => ?_
    have := hin f hf
    rw [e, h0] at this
    cases this
  rcases h with ⟨h1, h2, rfl⟩ | ⟨h1, h2, rfl⟩ | ⟨h1, rfl | rfl⟩
  · exact ⟨.inl h0, by rw [h0]; simp, .inr (.inl (hone h2))⟩
  · refine ⟨.inr hin, hlen, .inr ?_⟩
    by_cases c : fs = []
    · exact .inl c
    · refine .inr fun e => ?_
      obtain ⟨f, hf⟩ := List.exists_mem_of_ne_nil fs c
      have := hin f hf
      rw [e] at this
      cases this
  · exact ⟨.inl h0, by rw [h0]; simp, .inl h1⟩
  · exact ⟨.inr hin, hlen, .inl h1⟩

set_option maxRecDepth 20000 in
set_option maxHeartbeats 3200000 in
theorem registryTogether_any (v0 : Value) (fs : List Int) (b K : Nat) (w : World) (h0 : Its w w.heap.size v0 fs) (hl : fs.length ≤ 20) (hb : b < 256) (hK : K < 18446744073709551616) :
    Calls Try.prog 8 #[v0, .int .u8 (b : Int), .int .u64 (K : Int)] w fun e w' => e = .returned (.bool true) ∧ Below w.heap.size w w' := by
  have HV := Lib.hid h0
  obtain ⟨A, N, c, rfl, hN, hNc, hcm, hz⟩ := h0
  have HZ := Lib.hid hz
  have HN := Lib.hid hN
  have HK := Lib.hid hK
  have hN20 : N ≤ 20 := by omega
  unfold maxLen at hcm
  have t1 : decide ((20 : Int) < (N : Int)) = false := decide_eq_false (by omega)
  obtain ⟨m4, hm4⟩ : ∃ m, m = b % 4 := ⟨_, rfl⟩
  have r1 : (b : Int).tmod 4 = (m4 : Int) := by rw [Int.tmod_eq_emod_of_nonneg (by omega)]; omega
  have r2 : (b : Int) % 4 = (m4 : Int) := by omega
  have hm44 : m4 < 4 := by omega
  clear hl hN hz hK hm4
  go_enter Try.func8, Try.ntmps8
  go_wp2_with fail
  go_loopg [7] N (fun gg s7 wx => ∃ i : Nat, i + gg = N ∧ s7 = .int .i64 (i : Int) ∧ wx = w ∧ ∀ j, j < i → 0 ≤ fs.getD j 0 ∧ fs.getD j 0 ≤ 1023)
  case atStart => exact ⟨0, by omega, rfl, rfl, fun j hj => absurd hj (by omega)⟩
  case round =>
    obtain ⟨i, hig, rfl, hw, hr⟩ := hrel
    obtain rfl : w = wr := hw.symm
    have HR := Lib.hid hr
    clear hr
    by_cases hlt : i < N
    · have t4 : decide ((i : Int) < (N : Int)) = true := decide_eq_true (by omega)
      have t5 : (i : Int) < (N : Int) := by omega
      have t6 : (0 : Int) ≤ (i : Int) := by omega
      obtain ⟨b1, o1, rfl, _, hc⟩ := HZ.out (by omega)
      obtain ⟨y, hy⟩ : ∃ y, y = fs.getD i 0 := ⟨_, rfl⟩
      have hcell := hc i hlt
      rw [← hy] at hcell
      have HY := Lib.hid hy
      clear hc hy
      by_cases c1 : y < 0
      · have d1 : decide (y < 0) = true := decide_eq_true c1
        go_wp2_with fail
        refine (regAnswers_any _).mono ?_
        rintro e w1 ⟨rfl, hb1⟩
        go_wp2
        go_ret
        exact ⟨rfl, hb1⟩
      · have d1 : decide (y < 0) = false := decide_eq_false c1
        by_cases c2 : 1023 < y
        · have d2 : decide (1023 < y) = true := decide_eq_true c2
          go_wp2_with fail
          refine (regAnswers_any _).mono ?_
          rintro e w1 ⟨rfl, hb1⟩
          go_wp2
          go_ret
          exact ⟨rfl, hb1⟩
        · have d2 : decide (1023 < y) = false := decide_eq_false c2
          go_wp2_with fail
          go_roundg (N - (i + 1))
          case measure => omega
          case rel =>
            refine ⟨i + 1, by omega, by go_num, rfl, fun j hj => ?_⟩
            by_cases e : j = i
            · subst e
              rw [← HY.out]
              omega
            · exact HR.out j (by omega)
    · obtain rfl : i = N := by omega
      have t4 : decide ((i : Int) < (i : Int)) = false := decide_eq_false (by omega)
      have HVA := Lib.hid (show ∀ f ∈ fs, 0 ≤ f ∧ f ≤ 1023 from by
        intro f hf
        obtain ⟨j, hj, rfl⟩ := List.getElem_of_mem hf
        have := HR.out j (by rw [← HN.out]; exact hj)
        simpa [hj] using this)
      clear HR hig hlt
      have HASK := Lib.hid (show askB md0 fs = some (addM md0 (fs.map Int.toNat)) from if_pos ⟨by rw [HN.out]; exact hN20, HVA.out⟩)
      go_wp2_with fail
      refine (dnew_any 192 192 w (by unfold NearD; omega)).mono ?_
      rintro e w1 ⟨rfl, hd1, hb1, hz1⟩
      have HD1 := Lib.hid hd1
      have HB1 := Lib.hid hb1
      have S0 := Lib.hid (RSure.start dec_start enc_start)
      have HF1 := Lib.hid (S0.out.found (by omega) (fun f hf => (hd1.long hf).1))
      clear hd1 hb1 hz1
      go_wp2_with fail
      refine (ropen_ok _ _ _ 0 md0 _ _ w1 HD1.out HF1.out (fun _ => rfl)).mono ?_
      rintro e w2 ⟨gR, KK, n, rfl, hs2, hm2, hk2, ht2⟩
      obtain rfl : n = 0 := S0.out.stop (by omega) hs2
      have HM2 := Lib.hid hm2
      have HB2 := Lib.hid (HB1.out.trans (ht2.below (dk_lo w) HB1.out.size))
      have HK2 := Lib.hid (show ∀ k, KK k → w.heap.size ≤ k from fun k hk => by
        rcases hk2 k hk with h | h
        · exact dk_lo w k h
        · exact Nat.le_trans HB1.out.size h)
      clear hs2 hm2 hk2 ht2
      obtain ⟨ua, hu⟩ := PosI.exists_ (m4 : Int)
      have HUA := Lib.hid (hu.le (by omega))
      have HU := Lib.hid hu
      clear hu
      go_wp2_with fail
      refine (fuse_int _ _ _ _ _ _ _ (m4 : Int) ua w2 HM2.out.dsk HU.out HUA.out).mono ?_
      rintro e w4 ⟨rfl, hd4, ho4⟩
      have HR4 := Lib.hid (show Reg w4 gR (w.heap.size + 2) w.heap.size (w.heap.size + 1) KK 0 md0 [md0] _ _ _ from ⟨0, false, HM2.out.turned (Turns.of_only ho4 (.inl rfl)) hd4, S0.out.rinv⟩)
      have HB4 := Lib.hid (HB2.out.trans ((show Turns (dk (w.heap.size + 2) w.heap.size (w.heap.size + 1)) w2 w4 from Turns.of_only ho4 (.inl rfl)).below (dk_lo w) HB2.out.size))
      have HV4 := Lib.hid ((HV.out.below HB4.out).more HB4.out.size)
      have HOF := Lib.hid (show Off KK (.slice A i c) from fun b o s n c' e hn hk => by
        have h1 := HK2.out b hk
        obtain ⟨A', n', c2, e2, _, _, _, h2⟩ := HV.out
        injection e2 with e3 e4 e5
        injection e with f1 f2 f3
        obtain ⟨b2, o2, e6, h4, _⟩ := h2 (by omega)
        rw [← e3, f1] at e6
        injection e6 with e6
        injection e6 with e6
        omega)
      clear hd4 ho4
      go_wp2_with fail
      refine (radd_r gR _ _ _ 0 KK md0 [md0] _ _ _ _ fs w4 HR4.out HV4.out HOF.out (by omega)).mono ?_
      rintro e w5 ⟨z, K5, g5, md5, cs5, S5, L5, t5, rfl, hr5, hk5, hg5, ht5, hcase⟩
      rw [HASK.out] at hcase
      have HR5 := Lib.hid hr5
      have HB5 := Lib.hid (HB4.out.trans (ht5.below HK2.out HB4.out.size))
      have HCA := Lib.hid hcase
      clear hr5 hk5 ht5 hcase
      go_wp2_with fail
      refine (dcrash_any _ _ _ _ _ _ _ K 64 64 _ HR5.out.dsk HK.out (.inr (.inl ⟨by omega, rfl⟩))).mono ?_
      rintro e w6 ⟨rfl, hd6, ht6⟩
      obtain ⟨g6, c6, hg6, hc6, hf6⟩ : ∃ g' c, g' ≤ g5 + 1 ∧ c ∈ cs5 ∧ Found decR g' c (crashL S5 L5 (keptL (keysL 192 L5) K) 64) := by
        obtain ⟨n, br, h1, h2⟩ := HR5.out
        exact h2.crash (by omega) (val_crash (fun f hf => (h1.dsk.long hf).1) (fun f y hy => (h1.dsk.loose_ hy).1) (.inr rfl)) (fun f hf => (hd6.long hf).1)
      obtain ⟨FF, hff⟩ : ∃ FF, FF = crashL S5 L5 (keptL (keysL 192 L5) K) 64 := ⟨_, rfl⟩
      rw [← hff] at hd6 hf6
      have HD6 := Lib.hid hd6
      have HF6 := Lib.hid hf6
      have HB6 := Lib.hid (HB5.out.trans (ht6.below (dk_lo w) HB5.out.size))
      have FACT := Lib.hid (together_facts (z := z) (c := c6) HVA.out (by
        rcases HCA.out with ⟨e, _⟩ | ⟨nx, e, ⟨h1, h2, h3, h4⟩ | ⟨h1, h2, h3, h4⟩ | ⟨h1, h2, h3, h4⟩⟩
        · cases e
        · injection e with e
          subst e
          exact .inl ⟨h1, h2, List.mem_singleton.1 (h4 _ hc6)⟩
        · injection e with e
          subst e
          rw [h4] at hc6
          exact .inr (.inl ⟨h1, h2, List.mem_singleton.1 hc6⟩)
        · injection e with e
          subst e
          exact .inr (.inr ⟨by omega, (h4 _ hc6).imp List.mem_singleton.1 id⟩)))
      clear hd6 hf6 ht6 hff hc6
      go_wp2_with fail
      refine (ropen_ok _ _ _ g6 c6 FF (fun _ => none) w6 HD6.out HF6.out (fun _ => rfl)).mono ?_
      rintro e w7 ⟨gQ, K7, n7, rfl, hs7, hm7, hk7, ht7⟩
      have HM7 := Lib.hid hm7
      have HB7 := Lib.hid (HB6.out.trans (ht7.below (dk_lo w) HB6.out.size))
      clear hs7 hm7 hk7 ht7
      go_wp2_with fail
      refine (rbad_any gQ _ _ _ _ _ K7 _ _ _ _ _ w7 HM7.out).mono ?_
      rintro e w8 ⟨v8, rfl, ho8, hb8⟩
      obtain ⟨l, hl⟩ : ∃ l, l = badI c6 := ⟨_, rfl⟩
      rw [← hl] at ho8 FACT
      have HI8 := Lib.hid (Its.of_own ho8)
      have HB8 := Lib.hid (HB7.out.trans (hb8.mono HB7.out.size))
      have HV8 := Lib.hid (HV.out.below HB8.out)
      obtain ⟨F1, F2, F3⟩ := FACT.out
      have FF1 := Lib.hid F1
      obtain ⟨M, hM⟩ : ∃ M, M = l.length := ⟨_, rfl⟩
      obtain ⟨A8, c8, rfl⟩ : ∃ A c, v8 = .slice A M c := by
        obtain ⟨A, n, c, e, h1, _⟩ := HI8.out
        exact ⟨A, c, by rw [e, ← h1, hM]⟩
      have hMN : M ≤ i := by rw [hM, ← HN.out]; exact F2
      have hF3 : z ≠ 0 ∨ i = 0 ∨ 0 < M := by
        rcases F3 with h | h | h
        · exact .inl h
        · exact .inr (.inl (by rw [← HN.out, h]; rfl))
        · exact .inr (.inr (by rw [hM]; exact List.length_pos_iff.2 h))
      have HM := Lib.hid hM
      clear ho8 hb8 hl F1 F2 F3 FACT hM
      obtain ⟨N0, hN0⟩ : ∃ N0, N0 = i := ⟨_, rfl⟩
      go_wp2_with fail
      go_loopg [15] i (fun gg s15 wx => ∃ k m : Nat, k + gg = i ∧ s15 = .int .i64 (k : Int) ∧ wx = w8.drewN m)
      case atStart => exact ⟨0, 0, by omega, rfl, rfl⟩
      case round =>
        obtain ⟨k, m, hkg, rfl, rfl⟩ := hrel
        by_cases hk : k < i ∧ 0 < M
        · obtain ⟨hk1, hk2⟩ := hk
          have u1 : decide ((k : Int) < (i : Int)) = true := decide_eq_true (by omega)
          have u2 : decide ((0 : Int) < (M : Int)) = true := decide_eq_true (by omega)
          have u3 : (k : Int) < (i : Int) := by omega
          have u4 : (0 : Int) ≤ (k : Int) := by omega
          obtain ⟨y, hy⟩ : ∃ y, y = fs.getD k 0 := ⟨_, rfl⟩
          have HYM := Lib.hid (show y ∈ l from by
            rcases FF1.out with h | h
            · have := HM.out
              rw [h] at this
              simp at this
              omega
            · refine h y ?_
              have hk' : k < fs.length := by rw [HN.out]; exact hk1
              rw [hy, List.getD_eq_getElem?_getD, List.getElem?_eq_getElem hk']
              exact List.getElem_mem _)
          have HY := Lib.hid hy
          clear hy
          obtain ⟨G, rfl⟩ : ∃ G, G = gk := ⟨_, rfl⟩
          go_wp2_with fail
          go_loopg [16, 17] M (fun gi s16 s17 wy => ∃ j q : Nat, ∃ hb : Bool, j + gi = M ∧ s17 = .int .i64 (j : Int) ∧ s16 = .bool hb ∧ hb = decide (y ∈ l.take j) ∧ wy = w8.drewN (m + q))
          case atStart => exact ⟨0, 0, false, by omega, rfl, rfl, by simp, rfl⟩
          case round =>
            obtain ⟨j, q, hb, hjg, rfl, rfl, hhb, rfl⟩ := hrel
            have HHB := Lib.hid hhb
            clear hhb
            by_cases hj : j < M
            · have u5 : decide ((j : Int) < (M : Int)) = true := decide_eq_true (by omega)
              have u6 : (j : Int) < (M : Int) := by omega
              have u7 : (0 : Int) ≤ (j : Int) := by omega
              have HST := Lib.hid (take_mem_succ (l := l) (k := j) (y := y) (by rw [← HM.out]; exact hj))
              cases hb with
              | true =>
                go_wp2
                go_quiet (fail)
                go_wp2
                go_roundg (M - (j + 1))
                case measure => omega
                case rel => exact ⟨j + 1, q + nq, true, by omega, by go_num, rfl, by rw [HST.out, ← HHB.out]; rfl, by simp [Nat.add_assoc]⟩
              | false =>
                obtain ⟨x, hx⟩ : ∃ x, x = l.getD j 0 := ⟨_, rfl⟩
                obtain ⟨b8, o8, rfl, _, hc8⟩ : ∃ b off, A8 = some ⟨b, off, none⟩ ∧ b < w8.heap.size ∧ ∀ j, j < M → w8.cell? ⟨b, off + j, none⟩ = some (.int .i64 (l.getD j 0)) := by
                  obtain ⟨A', n', c', e, h1, _, _, h2⟩ := HI8.out
                  injection e with e1 e2 e3
                  subst e1 e2
                  exact h2 (by omega)
                obtain ⟨b9, o9, rfl, _, hc9⟩ : ∃ b off, A = some ⟨b, off, none⟩ ∧ b < w.heap.size ∧ ∀ j, j < i → w8.cell? ⟨b, off + j, none⟩ = some (.int .i64 (fs.getD j 0)) := by
                  obtain ⟨A', n', c', e, h1, _, _, h2⟩ := HV8.out
                  injection e with e1 e2 e3
                  subst e1 e2
                  exact h2 (by omega)
                have hcell8 : w8.cell? ⟨b8, o8 + j, none⟩ = some (.int .i64 x) := by rw [hx]; exact hc8 j hj
                have hcell9 : w8.cell? ⟨b9, o9 + k, none⟩ = some (.int .i64 y) := by rw [HY.out]; exact hc9 k hk1
                have HX := Lib.hid hx
                clear hc8 hc9 hx
                by_cases c1 : x = y
                · have d1 : (x == y) = true := by simp [c1]
                  have HC := Lib.hid c1
                  clear c1
                  go_wp2
                  go_quiet (fail)
                  go_wp2
                  go_roundg (M - (j + 1))
                  case measure => omega
                  case rel => exact ⟨j + 1, q + nq, true, by omega, by go_num, rfl, by rw [HST.out, ← HX.out, decide_eq_true HC.out]; simp, by simp [Nat.add_assoc]⟩
                · have d1 : (x == y) = false := by simp [c1]
                  have HC := Lib.hid c1
                  clear c1
                  go_wp2
                  go_quiet (fail)
                  go_wp2
                  go_roundg (M - (j + 1))
                  case measure => omega
                  case rel => exact ⟨j + 1, q + nq, false, by omega, by go_num, rfl, by rw [HST.out, ← HHB.out, ← HX.out, decide_eq_false HC.out]; rfl, by simp [Nat.add_assoc]⟩
            · obtain rfl : j = M := by omega
              have u5 : decide ((j : Int) < (j : Int)) = false := decide_eq_false (by omega)
              obtain rfl : hb = true := by
                rw [HHB.out, HM.out, List.take_length]
                exact decide_eq_true HYM.out
              go_wp2_with fail
              go_roundg (i - (k + 1))
              case measure => omega
              case rel => exact ⟨k + 1, m + q, by omega, by go_num, rfl⟩
        · have HEND := Lib.hid hk
          by_cases hki : k < i
          · have hM0 : M = 0 := by
              have := HEND.out
              omega
            subst hM0
            have u1 : decide ((k : Int) < (i : Int)) = true := decide_eq_true (by omega)
            have z1 : ((z : Int) != 0) = true := by rw [bne_iff_ne]; omega
            have u8 : decide ((0 : Int) ≤ (i : Int)) = true := decide_eq_true (by omega)
            clear hk
            go_wp2_with fail
            refine (regAnswers_any _).mono ?_
            rintro e w9 ⟨rfl, hb9⟩
            have HB9 := Lib.hid (show Below w.heap.size w w9 from (below_drewN HB8.out m).trans (hb9.mono HB8.out.size))
            clear hb9
            go_wp2
            go_ret
            exact ⟨by simp, HB9.out⟩
          · obtain rfl : k = i := by omega
            have u1 : decide ((k : Int) < (k : Int)) = false := decide_eq_false (by omega)
            have u8 : decide ((M : Int) ≤ (k : Int)) = true := decide_eq_true (by omega)
            clear hk
            by_cases z0 : z = 0
            · subst z0
              by_cases k0 : k = 0
              · subst k0
                go_wp2_with fail
                refine (regAnswers_any _).mono ?_
                rintro e w9 ⟨rfl, hb9⟩
                have HB9 := Lib.hid (show Below w.heap.size w w9 from (below_drewN HB8.out m).trans (hb9.mono HB8.out.size))
                clear hb9
                go_wp2
                go_ret
                exact ⟨by simp; omega, HB9.out⟩
              · have u9 : ((k : Int) == 0) = false := by simp; omega
                have u10 : decide ((0 : Int) < (M : Int)) = true := decide_eq_true (by omega)
                go_wp2_with fail
                refine (regAnswers_any _).mono ?_
                rintro e w9 ⟨rfl, hb9⟩
                have HB9 := Lib.hid (show Below w.heap.size w w9 from (below_drewN HB8.out m).trans (hb9.mono HB8.out.size))
                clear hb9
                go_wp2
                go_ret
                exact ⟨by simp, HB9.out⟩
            · have z1 : ((z : Int) != 0) = true := by rw [bne_iff_ne]; omega
              go_wp2_with fail
              refine (regAnswers_any _).mono ?_
              rintro e w9 ⟨rfl, hb9⟩
              have HB9 := Lib.hid (show Below w.heap.size w w9 from (below_drewN HB8.out m).trans (hb9.mono HB8.out.size))
              clear hb9
              go_wp2
              go_ret
              exact ⟨by simp, HB9.out⟩
end Go.Proofs.Ytfnegbcpiejdaab
