/-
  RegistryGrows answers true for any acts and any bytes, and writes nothing that was there.
  Conditions: the acts and the bytes are read in memory.
-/
import Derived.Test.YtfnegbcpiejdaabRegL
import Derived.Deep.LoopGhost
import Derived.BigQuiet
namespace Go.Proofs.Ytfnegbcpiejdaab
open Go.RowKit
set_option linter.unusedVariables false

set_option maxRecDepth 20000 in
set_option maxHeartbeats 400000 in
theorem registryGrows_edge (A A' : Option Addr) (l c l' c' : Nat) (w : World) (h : 60 < l ∨ l' = 0) :
    Calls Try.prog 5 #[.slice A l c, .slice A' l' c'] w fun e w' => e = .returned (.bool true) ∧ Below w.heap.size w w' := by
  by_cases h1 : 60 < l
  · have t1 : decide ((60 : Int) < (l : Int)) = true := decide_eq_true (by omega)
    clear h
    go_enter Try.func5, Try.ntmps5
    go_wp2_with fail
    refine (regAnswers_any _).mono ?_
    rintro e w1 ⟨rfl, hb⟩
    go_wp2
    go_ret
    exact ⟨rfl, hb⟩
  · have t1 : decide ((60 : Int) < (l : Int)) = false := decide_eq_false (by omega)
    obtain rfl : l' = 0 := by omega
    clear h
    go_enter Try.func5, Try.ntmps5
    go_wp2_with fail
    refine (regAnswers_any _).mono ?_
    rintro e w1 ⟨rfl, hb⟩
    go_wp2
    go_ret
    exact ⟨rfl, hb⟩

theorem crash_none7 (S : Nat → List Nat) (K tn : Nat) : crashL S (fun _ => none) (keptL (keysL 192 (fun _ => none)) K) tn = S := by
  rw [keysL_none]
  rfl
/-- What is bad stays so. -/
theorem ask7_keeps {md : MD} (h : MdOk md) (x : Act7) {f : Nat} (hf : md.1.getD f false = true) : ((ask7 md x).getD md).1.getD f false = true := by
  unfold ask7
  split
  · unfold askS
    split
    · exact hf
    · exact hf
  · unfold askB
    split
    · exact addM_keeps h _ hf
    · exact hf
theorem badI_at (md : MD) {j : Nat} (hj : j < (bads md.1 1024).length) : (badI md).getD j 0 = (((bads md.1 1024).getD j 0 : Nat) : Int) := by
  unfold badI
  simp [hj]
theorem badI_length (md : MD) : (badI md).length = (bads md.1 1024).length := by unfold badI; simp

/-- What holds ahead of each round. -/
def GrowAt (w : World) (i gR : Nat) (wx : World) : Prop :=
  ∃ K g md, RegQ wx gR (w.heap.size + 2) w.heap.size (w.heap.size + 1) K g md ∧ g ≤ i ∧ (∀ k, K k → w.heap.size ≤ k) ∧ Below w.heap.size w wx

set_option maxRecDepth 20000 in
set_option maxHeartbeats 6400000 in
theorem registryGrows_any (v0 v1 : Value) (acts : List Act7) (cs : List Nat) (w : World) (h0 : Acts7 w v0 acts) (h1 : Bts w w.heap.size v1 cs) (hl : acts.length ≤ 60) (hc0 : 0 < cs.length) :
    Calls Try.prog 5 #[v0, v1] w fun e w' => e = .returned (.bool true) ∧ Below w.heap.size w w' := by
  obtain ⟨A, N, c, rfl, hN, hm, hz⟩ := h0
  obtain ⟨A1, N1, c1, rfl, hN1, hm1, _, _, hby, hz1⟩ := h1
  have HZ := Lib.hid hz
  have HZ1 := Lib.hid hz1
  have HBY := Lib.hid hby
  have HN := Lib.hid hN
  have HN1 := Lib.hid hN1
  unfold maxLen at hm1
  have hN60 : N ≤ 60 := by omega
  have hN10 : 0 < N1 := by omega
  have t1 : decide ((60 : Int) < (N : Int)) = false := decide_eq_false (by omega)
  have t2 : ((N1 : Int) == 0) = false := by simp; omega
  obtain ⟨b2, o2, rfl, hb2, hc2⟩ := hz1 hN10
  have HC2 := Lib.hid hc2
  have HB2' := Lib.hid hb2
  clear hl hN hN1 hm hz hz1 hby hc0 hc2 hb2 HZ1
  go_enter Try.func5, Try.ntmps5
  go_wp2_with fail
  refine (dnew_any 192 192 w (by unfold NearD; omega)).mono ?_
  rintro e w1 ⟨rfl, hd1, hb1, hz1⟩
  have HD1 := Lib.hid hd1
  have HB1 := Lib.hid hb1
  have S0 := Lib.hid (RSure.start dec_start enc_start)
  have HF1 := Lib.hid (S0.out.found (by omega) (fun f hf => (hd1.long hf).1))
  clear hd1 hb1 hz1
  go_wp2_with fail
  refine (ropen_ok _ _ _ 0 md0 _ _ w1 HD1.out HF1.out (fun _ => rfl)).mono ?_
  rintro e w2 ⟨gR0, K0, n0, rfl, hs2, hm2, hk2, ht2⟩
  obtain rfl : n0 = 0 := S0.out.stop (by omega) hs2
  have HS2 := Lib.hid (show GrowAt w 0 gR0 w2 from ⟨K0, 0, md0, ⟨_, 0, hm2, S0.out⟩, Nat.le_refl _, (fun k hk => by
    rcases hk2 k hk with h | h
    · exact dk_lo w k h
    · exact Nat.le_trans HB1.out.size h), HB1.out.trans (ht2.below (dk_lo w) HB1.out.size)⟩)
  clear hs2 hm2 hk2 ht2
  go_wp2_with fail
  go_loopg [6, 7, 8] N (fun gg s6 s7 s8 wx => ∃ i gR : Nat, i + gg = N ∧ s8 = .int .i64 (i : Int) ∧ s7 = .int .i64 0 ∧ s6 = .pointer (some ⟨gR, 0, none⟩) ∧ GrowAt w i gR wx)
  case atStart => exact ⟨0, gR0, by omega, rfl, rfl, rfl, HS2.out⟩
  case round =>
    obtain ⟨i, gR, hig, rfl, rfl, rfl, K, g, md, hq, hg, hk, hb⟩ := hrel
    have HQ := Lib.hid hq
    have HK := Lib.hid hk
    have HB := Lib.hid hb
    clear hq hk hb
    by_cases hlt : i < N
    · have t4 : decide ((i : Int) < (N : Int)) = true := decide_eq_true (by omega)
      have t5 : (i : Int) < (N : Int) := by omega
      have t6 : (0 : Int) ≤ (i : Int) := by omega
      obtain ⟨r, hr⟩ : ∃ r, r = i % N1 := ⟨_, rfl⟩
      have hrN : r < N1 := by rw [hr]; exact Nat.mod_lt _ hN10
      have r1 : (i : Int).tmod (N1 : Int) = (r : Int) := by rw [Int.tmod_eq_emod_of_nonneg (by omega), hr]; simp
      have t7 : (r : Int) < (N1 : Int) := by omega
      have t8 : (0 : Int) ≤ (r : Int) := by omega
      have t9 : (N1 : Int) ≠ 0 := by omega
      obtain ⟨b1, o1, rfl, hpa⟩ := HZ.out (by omega)
      obtain ⟨ac, hac⟩ : ∃ ac, acts[i]? = some ac := ⟨_, List.getElem?_eq_getElem (by rw [HN.out]; exact hlt)⟩
      obtain ⟨hbl, hq1, hq2, hq3, hq4, hxv⟩ := hpa i ac hac
      have HAC := Lib.hid hxv
      obtain ⟨kk, hkk⟩ : ∃ kk, kk = cs.getD r 0 := ⟨_, rfl⟩
      have hk256 : kk < 256 := by rw [hkk]; exact HBY.out r hrN
      have HKC := Lib.hid (show ∀ W, Below w.heap.size w W → W.cell? ⟨b2, o2 + r, none⟩ = some (.int .u8 (kk : Int)) from fun W hW => by
        rw [hW.cell (p := ⟨b2, o2 + r, none⟩) HB2'.out, hkk]; exact HC2.out r hrN)
      have HPC := Lib.hid (show ∀ W, Below w.heap.size w W → W.cell? ⟨b1, o1 + i * 4, none⟩ = some ac.v ∧ W.cell? ⟨b1, o1 + i * 4 + 1, none⟩ = some (.bool ac.set) ∧ W.cell? ⟨b1, o1 + i * 4 + 2, none⟩ = some (.int .i64 ac.sect) ∧ W.cell? ⟨b1, o1 + i * 4 + 3, none⟩ = some (.int .i64 ac.st) from fun W hW =>
        ⟨(hW.cell (p := ⟨b1, _, none⟩) hbl).trans hq1, (hW.cell (p := ⟨b1, _, none⟩) hbl).trans hq2, (hW.cell (p := ⟨b1, _, none⟩) hbl).trans hq3, (hW.cell (p := ⟨b1, _, none⟩) hbl).trans hq4⟩)
      have HOFF := Lib.hid (hxv.off HK.out)
      clear hr hpa hac hbl hq1 hq2 hq3 hq4 hxv hkk
      obtain ⟨S3, n3, hm3, hs3⟩ := HQ.out
      go_wp2_with fail
      refine (rbad_any gR _ _ _ _ _ K _ _ _ _ _ wr hm3).mono ?_
      rintro e w3 ⟨v3, rfl, ho3, hb3⟩
      clear hm3 hs3
      have HO3 := Lib.hid ho3
      have HQ3 := Lib.hid (HQ.out.fresh hb3)
      have HB3 := Lib.hid (HB.out.trans (hb3.mono HB.out.size))
      have HKL := Lib.hid HQ.out.lt
      obtain ⟨A3, c3, rfl⟩ := own_any ho3
      obtain ⟨p1, p2, p3, p4⟩ := HPC.out w3 HB3.out
      have HV3 := Lib.hid ((HAC.out.below HB3.out).more HB3.out.size)
      obtain ⟨av, afs, aset, asect, ast⟩ := ac
      simp only at p1 p2 p3 p4
      obtain ⟨A5, n5, c5, rfl, -⟩ := id HAC.out
      clear ho3 hb3
      go_wp2_with fail
      refine (done_q gR _ _ _ g K md ⟨.slice A5 n5 c5, afs, aset, asect, ast⟩ w3 HQ3.out HV3.out HOFF.out (by omega)).mono ?_
      rintro e w4 ⟨z4, K4, g4, rfl, hz4, hq4, hk4, hg4, ht4⟩
      obtain ⟨md4, hmd4⟩ : ∃ md4, md4 = (ask7 md ⟨.slice A5 n5 c5, afs, aset, asect, ast⟩).getD md := ⟨_, rfl⟩
      rw [← hmd4] at hq4
      have HMO := Lib.hid (show ∀ x, md.1.getD x false = true → md4.1.getD x false = true from fun x hx => by rw [hmd4]; exact ask7_keeps HQ.out.ok _ hx)
      have HQ4 := Lib.hid hq4
      have HB4 := Lib.hid (HB3.out.trans (ht4.below HK.out HB3.out.size))
      have HK4 := Lib.hid (show ∀ k, K4 k → w.heap.size ≤ k from fun k hk => by
        rcases hk4 k hk with h | h
        · exact HK.out k h
        · exact Nat.le_trans HB3.out.size h)
      have HO4 := Lib.hid (own_turns HO3.out HKL.out ht4)
      have HG4 := Lib.hid (show g4 ≤ i + 1 by omega)
      have p5 := HKC.out w4 HB4.out
      clear hz4 hq4 hk4 ht4 hmd4 p1 p2 p3 p4 hg4
      have SZ := Lib.hid (show w.heap.size + 3 ≤ wr.heap.size from by
        obtain ⟨S, n, h, _⟩ := HQ.out
        have := h.dsk.lt.1
        omega)
      by_cases hk4' : kk % 4 = 0
      · have d1 : (((kk : Int).tmod 4) == 0) = true := by rw [Int.tmod_eq_emod_of_nonneg (by omega)]; simp; omega
        have d2 : (((kk : Int) % 4) == 0) = true := by simp; omega
        obtain ⟨tn, htn⟩ : ∃ tn, Near64 (kk : Int) tn := by
          by_cases c1 : kk ≤ 64
          · exact ⟨kk, .inr (.inr ⟨by omega, by omega, rfl⟩)⟩
          · exact ⟨64, .inr (.inl ⟨by omega, rfl⟩)⟩
        have HT := Lib.hid htn
        have kw : IntKind.u64.wrap (kk : Int) = (kk : Int) := by rw [IntKind.wrap_u64]; omega
        obtain ⟨S5, n5', hm5, hs5⟩ := HQ4.out
        have HM5 := Lib.hid hm5
        have HS5 := Lib.hid hs5
        clear htn hm5 hs5
        go_wp2_with fail
        refine (dcrash_any _ _ _ _ S5 (fun _ => none) Tr.none_ kk (kk : Int) tn _ HM5.out.dsk (by omega) HT.out).mono ?_
        rintro e w5 ⟨rfl, hd5, ht5⟩
        rw [crash_none7] at hd5
        have HD5 := Lib.hid hd5
        have HF5 := Lib.hid (HS5.out.found (by have := HG4.out; omega) (fun f hf => (hd5.long hf).1))
        have HB5 := Lib.hid (HB4.out.trans (ht5.below (dk_lo w) HB4.out.size))
        have HDK := Lib.hid (show ∀ k, dk (w.heap.size + 2) w.heap.size (w.heap.size + 1) k → k < wr.heap.size from fun k hk => by
          have := dk_base w k hk
          have := SZ.out
          omega)
        have HO5 := Lib.hid (own_turns HO4.out HDK.out ht5)
        clear hd5 ht5
        go_wp2_with fail
        refine (ropen_ok _ _ _ g4 md4 S5 (fun _ => none) w5 HD5.out HF5.out (fun _ => rfl)).mono ?_
        rintro e w6 ⟨gQ, K6, n6, rfl, hs6, hm6, hk6, ht6⟩
        obtain rfl : n6 = n5' := HS5.out.stop (by have := HG4.out; omega) hs6
        have HQ6 := Lib.hid (show RegQ w6 gQ (w.heap.size + 2) w.heap.size (w.heap.size + 1) K6 g4 md4 from ⟨S5, n6, hm6, HS5.out⟩)
        have HB6 := Lib.hid (HB5.out.trans (ht6.below (dk_lo w) HB5.out.size))
        have HK6 := Lib.hid (show ∀ k, K6 k → w.heap.size ≤ k from fun k hk => by
          rcases hk6 k hk with h | h
          · exact dk_lo w k h
          · exact Nat.le_trans HB5.out.size h)
        have HO6 := Lib.hid (own_turns HO5.out HDK.out ht6)
        clear hs6 hm6 hk6 ht6
        obtain ⟨S7, n7, hm7, hs7⟩ := HQ6.out
        go_wp2_with fail
        refine (rbad_any gQ _ _ _ _ _ K6 _ _ _ _ _ w6 hm7).mono ?_
        rintro e w7 ⟨v7, rfl, ho7, hb7⟩
        clear hm7 hs7
        have HQ7 := Lib.hid (HQ6.out.fresh hb7)
        have HB7 := Lib.hid (HB6.out.trans (hb7.mono HB6.out.size))
        have HI7 := Lib.hid (Its.of_own ho7)
        have HI3 := Lib.hid ((Its.of_own HO6.out).below hb7)
        obtain ⟨A7, c7, rfl⟩ := own_any ho7
        obtain ⟨la, hla⟩ : ∃ la, la = bads md4.1 1024 := ⟨_, rfl⟩
        obtain ⟨lb, hlb⟩ : ∃ lb, lb = bads md.1 1024 := ⟨_, rfl⟩
        obtain ⟨pp, hpp⟩ : ∃ pp : Nat → Bool, pp = fun f => md.1.getD f false := ⟨_, rfl⟩
        have HFI := Lib.hid (show lb = la.filter pp from by rw [hlb, hla, hpp]; exact bads_filter HMO.out)
        obtain ⟨M, hM⟩ : ∃ M, M = la.length := ⟨_, rfl⟩
        obtain ⟨Q, hQ⟩ : ∃ Q, Q = lb.length := ⟨_, rfl⟩
        rw [badI_length, ← hla, ← hM] at HI7 ⊢
        rw [badI_length, ← hlb, ← hQ] at HI3 ⊢
        have HCA := Lib.hid (show ∀ j, j < M → ∃ b off, A7 = some ⟨b, off, none⟩ ∧ w7.cell? ⟨b, off + j, none⟩ = some (.int .i64 ((la.getD j 0 : Nat) : Int)) from fun j hj => by
          obtain ⟨A', n', c', e, h1, _, _, h2⟩ := HI7.out
          injection e with e1 e2 e3
          obtain ⟨b, off, h3, _, h4⟩ := h2 (by omega)
          refine ⟨b, off, e1.trans h3, ?_⟩
          rw [h4 j (by omega), badI_at _ (by rw [← hla, ← hM]; exact hj), hla])
        have HCB := Lib.hid (show ∀ j, j < Q → ∃ b off, A3 = some ⟨b, off, none⟩ ∧ w7.cell? ⟨b, off + j, none⟩ = some (.int .i64 ((lb.getD j 0 : Nat) : Int)) from fun j hj => by
          obtain ⟨A', n', c', e, h1, _, _, h2⟩ := HI3.out
          injection e with e1 e2 e3
          obtain ⟨b, off, h3, _, h4⟩ := h2 (by omega)
          refine ⟨b, off, e1.trans h3, ?_⟩
          rw [h4 j (by omega), badI_at _ (by rw [← hlb, ← hQ]; exact hj), hlb])
        have HM := Lib.hid hM
        have HQL := Lib.hid hQ
        have hM1024 : M ≤ 1024 := by rw [hM, hla]; exact bads_length_le _ _
        have hQ1024 : Q ≤ 1024 := by rw [hQ, hlb]; exact bads_length_le _ _
        clear ho7 hb7 hla hlb hpp hM hQ
        obtain ⟨G, rfl⟩ : ∃ G, G = gk := ⟨_, rfl⟩
        obtain ⟨W0, rfl⟩ : ∃ W0, W0 = wr := ⟨_, rfl⟩
        go_wp2_with fail
        go_loopg [12, 13] M (fun gi s12 s13 wy => ∃ k n q : Nat, n + gi = M ∧ s13 = .int .i64 (n : Int) ∧ s12 = .int .i64 (k : Int) ∧ k = come pp la n ∧ wy = w7.drewN q)
        case atStart => exact ⟨0, 0, 0, by omega, rfl, rfl, (come_zero _ _).symm, rfl⟩
        case round =>
          obtain ⟨k, n, q, hng, rfl, rfl, hkc, rfl⟩ := hrel
          have HKC2 := Lib.hid hkc
          have hkQ : k ≤ Q := by rw [hkc, HQL.out, HFI.out]; exact come_le _ _ _
          clear hkc
          by_cases hn : n < M
          · have u1 : decide ((n : Int) < (M : Int)) = true := decide_eq_true (by omega)
            have u2 : (n : Int) < (M : Int) := by omega
            have u3 : (0 : Int) ≤ (n : Int) := by omega
            obtain ⟨b7, o7, rfl, hcell7⟩ := HCA.out n hn
            obtain ⟨y, hy⟩ : ∃ y, y = la.getD n 0 := ⟨_, rfl⟩
            rw [← hy] at hcell7
            have HCS := Lib.hid (come_succ (p := pp) (zs := la) (n := n) (by rw [← HM.out]; exact hn))
            have HY := Lib.hid hy
            clear hy
            by_cases hp : pp y = true
            · have HYE := Lib.hid (come_yes (p := pp) (zs := la) (n := n) (by rw [← HM.out]; exact hn) (by rw [← HY.out]; exact hp))
              have hkl : k < Q := by rw [HKC2.out, HQL.out, HFI.out]; exact HYE.out.1
              have u4 : decide ((k : Int) < (Q : Int)) = true := decide_eq_true (by omega)
              have u5 : (k : Int) < (Q : Int) := by omega
              have u6 : (0 : Int) ≤ (k : Int) := by omega
              obtain ⟨b3, o3, rfl, hcell3⟩ := HCB.out k hkl
              rw [show lb.getD k 0 = y from by rw [HFI.out, HKC2.out, HYE.out.2, HY.out]] at hcell3
              have u7 : ((y : Int) == (y : Int)) = true := by simp
              have HP := Lib.hid hp
              clear hp
              go_wp2
              go_quiet (fail)
              go_wp2
              go_roundg (M - (n + 1))
              case measure => omega
              case rel => exact ⟨k + 1, n + 1, q + nq, by omega, by go_num, by go_num, by rw [HCS.out, ← HY.out, HP.out, if_pos rfl, HKC2.out], by simp [Nat.add_assoc]⟩
            · have hp' : pp y = false := by simpa using hp
              have HP := Lib.hid hp'
              clear hp hp'
              by_cases hkl : k < Q
              · have u4 : decide ((k : Int) < (Q : Int)) = true := decide_eq_true (by omega)
                have u5 : (k : Int) < (Q : Int) := by omega
                have u6 : (0 : Int) ≤ (k : Int) := by omega
                have HNO := Lib.hid (come_no (p := pp) (zs := la) (n := n) (by rw [← HM.out]; exact hn) (by rw [← HY.out]; exact HP.out) (by rw [← HFI.out, ← HQL.out, ← HKC2.out]; exact hkl))
                obtain ⟨b3, o3, rfl, hcell3⟩ := HCB.out k hkl
                obtain ⟨x, hx⟩ : ∃ x, x = lb.getD k 0 := ⟨_, rfl⟩
                rw [← hx] at hcell3
                have hxy : x ≠ y := by rw [hx, HFI.out, HKC2.out, HY.out]; exact HNO.out
                have u7 : ((x : Int) == (y : Int)) = false := by simp; omega
                clear hx hxy
                go_wp2
                go_quiet (fail)
                go_wp2
                go_roundg (M - (n + 1))
                case measure => omega
                case rel => exact ⟨k, n + 1, q + nq, by omega, by go_num, rfl, by rw [HCS.out, ← HY.out, HP.out, HKC2.out]; simp, by simp [Nat.add_assoc]⟩
              · have u4 : decide ((k : Int) < (Q : Int)) = false := decide_eq_false (by omega)
                go_wp2
                go_quiet (fail)
                go_wp2
                go_roundg (M - (n + 1))
                case measure => omega
                case rel => exact ⟨k, n + 1, q + nq, by omega, by go_num, rfl, by rw [HCS.out, ← HY.out, HP.out, HKC2.out]; simp, by simp [Nat.add_assoc]⟩
          · obtain rfl : n = M := by omega
            have u1 : decide ((n : Int) < (n : Int)) = false := decide_eq_false (by omega)
            obtain rfl : k = Q := by rw [HKC2.out, HM.out, come_all, HQL.out, HFI.out]
            have u8 : ((k : Int) != (k : Int)) = false := by simp
            go_wp2_with fail
            go_roundg (N - (i + 1))
            case measure => omega
            case rel => exact ⟨i + 1, gQ, by omega, by go_num, rfl, rfl, K6, g4, md4, HQ7.out.fresh (below_drewN (Below.refl _ _) q), by have := HG4.out; omega, HK6.out, below_drewN HB7.out q⟩
      · have d1 : (((kk : Int).tmod 4) == 0) = false := by rw [Int.tmod_eq_emod_of_nonneg (by omega)]; simp; omega
        have d2 : (((kk : Int) % 4) == 0) = false := by simp; omega
        obtain ⟨w6, hw6⟩ : ∃ w6, w6 = w4 := ⟨_, rfl⟩
        obtain ⟨gQ, hgQ⟩ : ∃ gQ, gQ = gR := ⟨_, rfl⟩
        obtain ⟨K6, hK6⟩ : ∃ K6, K6 = K4 := ⟨_, rfl⟩
        have HQ6 := Lib.hid (show RegQ w6 gQ (w.heap.size + 2) w.heap.size (w.heap.size + 1) K6 g4 md4 from by rw [hw6, hgQ, hK6]; exact HQ4.out)
        have HB6 := Lib.hid (show Below w.heap.size w w6 from by rw [hw6]; exact HB4.out)
        have HK6 := Lib.hid (show ∀ k, K6 k → w.heap.size ≤ k from by rw [hK6]; exact HK4.out)
        have HO6 := Lib.hid (show w6.ownsRow wr.heap.size 3 1 (.slice A3 (badI md).length c3) (badI md).length ((badI md).map (fun z => Value.int .i64 z)) from by rw [hw6]; exact HO4.out)
        rw [← hw6] at p5 ⊢
        rw [← hgQ]
        clear hw6 hK6 hgQ
        obtain ⟨S7, n7, hm7, hs7⟩ := HQ6.out
        go_wp2_with fail
        refine (rbad_any gQ _ _ _ _ _ K6 _ _ _ _ _ w6 hm7).mono ?_
        rintro e w7 ⟨v7, rfl, ho7, hb7⟩
        clear hm7 hs7
        have HQ7 := Lib.hid (HQ6.out.fresh hb7)
        have HB7 := Lib.hid (HB6.out.trans (hb7.mono HB6.out.size))
        have HI7 := Lib.hid (Its.of_own ho7)
        have HI3 := Lib.hid ((Its.of_own HO6.out).below hb7)
        obtain ⟨A7, c7, rfl⟩ := own_any ho7
        obtain ⟨la, hla⟩ : ∃ la, la = bads md4.1 1024 := ⟨_, rfl⟩
        obtain ⟨lb, hlb⟩ : ∃ lb, lb = bads md.1 1024 := ⟨_, rfl⟩
        obtain ⟨pp, hpp⟩ : ∃ pp : Nat → Bool, pp = fun f => md.1.getD f false := ⟨_, rfl⟩
        have HFI := Lib.hid (show lb = la.filter pp from by rw [hlb, hla, hpp]; exact bads_filter HMO.out)
        obtain ⟨M, hM⟩ : ∃ M, M = la.length := ⟨_, rfl⟩
        obtain ⟨Q, hQ⟩ : ∃ Q, Q = lb.length := ⟨_, rfl⟩
        rw [badI_length, ← hla, ← hM] at HI7 ⊢
        rw [badI_length, ← hlb, ← hQ] at HI3 ⊢
        have HCA := Lib.hid (show ∀ j, j < M → ∃ b off, A7 = some ⟨b, off, none⟩ ∧ w7.cell? ⟨b, off + j, none⟩ = some (.int .i64 ((la.getD j 0 : Nat) : Int)) from fun j hj => by
          obtain ⟨A', n', c', e, h1, _, _, h2⟩ := HI7.out
          injection e with e1 e2 e3
          obtain ⟨b, off, h3, _, h4⟩ := h2 (by omega)
          refine ⟨b, off, e1.trans h3, ?_⟩
          rw [h4 j (by omega), badI_at _ (by rw [← hla, ← hM]; exact hj), hla])
        have HCB := Lib.hid (show ∀ j, j < Q → ∃ b off, A3 = some ⟨b, off, none⟩ ∧ w7.cell? ⟨b, off + j, none⟩ = some (.int .i64 ((lb.getD j 0 : Nat) : Int)) from fun j hj => by
          obtain ⟨A', n', c', e, h1, _, _, h2⟩ := HI3.out
          injection e with e1 e2 e3
          obtain ⟨b, off, h3, _, h4⟩ := h2 (by omega)
          refine ⟨b, off, e1.trans h3, ?_⟩
          rw [h4 j (by omega), badI_at _ (by rw [← hlb, ← hQ]; exact hj), hlb])
        have HM := Lib.hid hM
        have HQL := Lib.hid hQ
        have hM1024 : M ≤ 1024 := by rw [hM, hla]; exact bads_length_le _ _
        have hQ1024 : Q ≤ 1024 := by rw [hQ, hlb]; exact bads_length_le _ _
        clear ho7 hb7 hla hlb hpp hM hQ
        obtain ⟨G, rfl⟩ : ∃ G, G = gk := ⟨_, rfl⟩
        obtain ⟨W0, rfl⟩ : ∃ W0, W0 = wr := ⟨_, rfl⟩
        go_wp2_with fail
        go_loopg [12, 13] M (fun gi s12 s13 wy => ∃ k n q : Nat, n + gi = M ∧ s13 = .int .i64 (n : Int) ∧ s12 = .int .i64 (k : Int) ∧ k = come pp la n ∧ wy = w7.drewN q)
        case atStart => exact ⟨0, 0, 0, by omega, rfl, rfl, (come_zero _ _).symm, rfl⟩
        case round =>
          obtain ⟨k, n, q, hng, rfl, rfl, hkc, rfl⟩ := hrel
          have HKC2 := Lib.hid hkc
          have hkQ : k ≤ Q := by rw [hkc, HQL.out, HFI.out]; exact come_le _ _ _
          clear hkc
          by_cases hn : n < M
          · have u1 : decide ((n : Int) < (M : Int)) = true := decide_eq_true (by omega)
            have u2 : (n : Int) < (M : Int) := by omega
            have u3 : (0 : Int) ≤ (n : Int) := by omega
            obtain ⟨b7, o7, rfl, hcell7⟩ := HCA.out n hn
            obtain ⟨y, hy⟩ : ∃ y, y = la.getD n 0 := ⟨_, rfl⟩
            rw [← hy] at hcell7
            have HCS := Lib.hid (come_succ (p := pp) (zs := la) (n := n) (by rw [← HM.out]; exact hn))
            have HY := Lib.hid hy
            clear hy
            by_cases hp : pp y = true
            · have HYE := Lib.hid (come_yes (p := pp) (zs := la) (n := n) (by rw [← HM.out]; exact hn) (by rw [← HY.out]; exact hp))
              have hkl : k < Q := by rw [HKC2.out, HQL.out, HFI.out]; exact HYE.out.1
              have u4 : decide ((k : Int) < (Q : Int)) = true := decide_eq_true (by omega)
              have u5 : (k : Int) < (Q : Int) := by omega
              have u6 : (0 : Int) ≤ (k : Int) := by omega
              obtain ⟨b3, o3, rfl, hcell3⟩ := HCB.out k hkl
              rw [show lb.getD k 0 = y from by rw [HFI.out, HKC2.out, HYE.out.2, HY.out]] at hcell3
              have u7 : ((y : Int) == (y : Int)) = true := by simp
              have HP := Lib.hid hp
              clear hp
              go_wp2
              go_quiet (fail)
              go_wp2
              go_roundg (M - (n + 1))
              case measure => omega
              case rel => exact ⟨k + 1, n + 1, q + nq, by omega, by go_num, by go_num, by rw [HCS.out, ← HY.out, HP.out, if_pos rfl, HKC2.out], by simp [Nat.add_assoc]⟩
            · have hp' : pp y = false := by simpa using hp
              have HP := Lib.hid hp'
              clear hp hp'
              by_cases hkl : k < Q
              · have u4 : decide ((k : Int) < (Q : Int)) = true := decide_eq_true (by omega)
                have u5 : (k : Int) < (Q : Int) := by omega
                have u6 : (0 : Int) ≤ (k : Int) := by omega
                have HNO := Lib.hid (come_no (p := pp) (zs := la) (n := n) (by rw [← HM.out]; exact hn) (by rw [← HY.out]; exact HP.out) (by rw [← HFI.out, ← HQL.out, ← HKC2.out]; exact hkl))
                obtain ⟨b3, o3, rfl, hcell3⟩ := HCB.out k hkl
                obtain ⟨x, hx⟩ : ∃ x, x = lb.getD k 0 := ⟨_, rfl⟩
                rw [← hx] at hcell3
                have hxy : x ≠ y := by rw [hx, HFI.out, HKC2.out, HY.out]; exact HNO.out
                have u7 : ((x : Int) == (y : Int)) = false := by simp; omega
                clear hx hxy
                go_wp2
                go_quiet (fail)
                go_wp2
                go_roundg (M - (n + 1))
                case measure => omega
                case rel => exact ⟨k, n + 1, q + nq, by omega, by go_num, rfl, by rw [HCS.out, ← HY.out, HP.out, HKC2.out]; simp, by simp [Nat.add_assoc]⟩
              · have u4 : decide ((k : Int) < (Q : Int)) = false := decide_eq_false (by omega)
                go_wp2
                go_quiet (fail)
                go_wp2
                go_roundg (M - (n + 1))
                case measure => omega
                case rel => exact ⟨k, n + 1, q + nq, by omega, by go_num, rfl, by rw [HCS.out, ← HY.out, HP.out, HKC2.out]; simp, by simp [Nat.add_assoc]⟩
          · obtain rfl : n = M := by omega
            have u1 : decide ((n : Int) < (n : Int)) = false := decide_eq_false (by omega)
            obtain rfl : k = Q := by rw [HKC2.out, HM.out, come_all, HQL.out, HFI.out]
            have u8 : ((k : Int) != (k : Int)) = false := by simp
            go_wp2_with fail
            go_roundg (N - (i + 1))
            case measure => omega
            case rel => exact ⟨i + 1, gQ, by omega, by go_num, rfl, rfl, K6, g4, md4, HQ7.out.fresh (below_drewN (Below.refl _ _) q), by have := HG4.out; omega, HK6.out, below_drewN HB7.out q⟩
    · obtain rfl : i = N := by omega
      have t4 : decide ((i : Int) < (i : Int)) = false := decide_eq_false (by omega)
      go_wp2_with fail
      refine (regAnswers_any _).mono ?_
      rintro e w3 ⟨rfl, hb3⟩
      have HB3 := Lib.hid (HB.out.trans (hb3.mono HB.out.size))
      clear hb3
      go_wp2
      go_ret
      exact ⟨rfl, HB3.out⟩
end Go.Proofs.Ytfnegbcpiejdaab
