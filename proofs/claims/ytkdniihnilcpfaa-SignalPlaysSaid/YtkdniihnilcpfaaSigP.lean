/-
  SignalPlays answers true.
  Conditions: the list is read in memory.
-/
import Derived.Test.YtkdniihnilcpfaaSigA
import Derived.Test.YtkdniihnilcpfaaRwa
import Derived.Test.YtkdniihnilcpfaaBkR
import Derived.BigQuiet
import Derived.Deep.QuietTactic
namespace Go.Proofs.Ytkdniihnilcpfaa
open Go.RowKit
set_option linter.unusedVariables false

theorem Try.infoSgT : (Try.prog.info? 29).map (fun i => (i.zero, i.size, i.bytes)) = some (some (.agg (plV pl0)), 2, 16) := by kernel_rfl
theorem SigT.grown {w0 w w' : World} {gQ m : Nat} {l : List Pl} {Z Z' : Nat → Prop} {row : Option Nat} (h : SigT w0 w gQ m l Z) (hg : w.grownBy w' row) (hz : ∀ k, row = some k → Z k ∧ w0.heap.size ≤ k) (hz' : ∀ k, Z' k → Z k ∨ w.heap.size ≤ k) : SigT w0 w' gQ m l Z' := by
  obtain ⟨⟨K, h1, h2⟩, h3⟩ := h
  refine ⟨⟨K, h1.far fun k hk => hg.block k (h1.lt k hk) (fun e => (h2 k hk).2 (hz k e.symm).1), fun k hk => ⟨(h2 k hk).1, fun hk' => ?_⟩⟩, h3.grown hg h3.size (fun k hk => (hz k hk).2)⟩
  rcases hz' k hk' with h | h
  · exact (h2 k hk).2 h
  · have := h1.lt k hk
    omega
theorem flatP_two (l : List Pl) (a b : Int) : flatP l ++ [Value.int .i64 a, Value.int .i64 b] = flatP (l ++ [⟨a, b⟩]) := by rw [flatP_append]; rfl
set_option maxRecDepth 20000
set_option maxHeartbeats 1600000
theorem signalPlays_edge (most : Int) (A : Option Addr) (l c : Nat) (w : World) (h : 200 < l) :
    Calls Try.prog 3 #[.int .i64 most, .slice A l c] w fun e w' => e = .returned (.bool true) ∧ Below w.heap.size w w' := by
  have t1 : decide ((200 : Int) < (l : Int)) = true := decide_eq_true (by omega)
  clear h
  go_enter Try.func3, Try.ntmps3
  go_wp2_with fail
  refine (sigAnswers_any _).mono ?_
  rintro e w1 ⟨rfl, hb⟩
  go_wp2
  go_ret
  exact ⟨rfl, hb⟩
theorem signalPlays_any (most : Int) (v0 : Value) (xs : List Int) (w : World) (h0 : Its w w.heap.size v0 xs) (hx : xs.length ≤ 200) :
    Calls Try.prog 3 #[.int .i64 most, v0] w fun e w' => e = .returned (.bool true) ∧ Below w.heap.size w w' := by
  obtain ⟨A, N, c, rfl, hN, h1, h2, h3⟩ := h0
  have HZ := Lib.hid h3
  have HN := Lib.hid hN
  have t1 : decide ((200 : Int) < (N : Int)) = false := decide_eq_false (by omega)
  have hN2 : N ≤ 200 := by omega
  obtain ⟨m, hm⟩ : ∃ m, m = near16 most := ⟨_, rfl⟩
  have hm16 : m ≤ 16 := by rw [hm]; exact near16_le most
  have CU := Lib.hid (fun W => cut16_any most W)
  simp only [← hm] at CU
  have HM := Lib.hid hm
  clear hN h1 h2 h3 hx hm
  go_enter Try.func3, Try.ntmps3
  go_wp2_with fail
  refine (sg_new w w most (Below.refl _ _) (fun _ => False) (noZq w)).mono ?_
  rintro e w1 ⟨gQ, rfl, h1, -⟩
  rw [← HM.out] at h1
  have S1 := Lib.hid h1
  have C1 := Lib.hid (CU.out w1)
  clear h1
  go_wp2_with (go_at_call 9; refine C1.out.mono ?_; rintro e w' ⟨rfl, rfl⟩)
  go_loopg [7, 8, 9, 10, 11, 12] N (fun gg s7 s8 _ _ _ _ wx => ∃ (i : Nat) (l : List Pl), i + gg = N ∧ s8 = .int .i64 (i : Int) ∧ SigT w wx gQ m l (fun k => s7.ownBlock = some k) ∧ RowAt wx w.heap.size 2 s7 l.length (flatP l))
  case atStart => exact ⟨0, [], by omega, rfl, S1.out.widen (Below.refl _ _) (fun k hk => by cases hk), RowAt.nil_ _ _ _⟩
  case round =>
    obtain ⟨i, l, hig, rfl, h5, h6⟩ := hrel
    have S5 := Lib.hid h5
    have R5 := Lib.hid h6
    clear h5 h6
    obtain ⟨n, hn⟩ : ∃ n, n = l.length := ⟨_, rfl⟩
    have HL := Lib.hid hn
    rw [← hn] at R5
    have hnm : n ≤ m := by rw [hn]; exact S5.out.le
    obtain ⟨B7, cap, rfl, hcap⟩ := R5.out.len
    have hcm : n ≤ 16 := by omega
    have HV := Lib.hid (fun k hk => (R5.out.lt k hk).2)
    have HV0 := Lib.hid (fun k hk => (R5.out.lt k hk).1)
    clear hn S1 C1 HM CU
    by_cases hlt : i < N
    · have t4 : decide ((i : Int) < (N : Int)) = true := decide_eq_true (by omega)
      have t5 : (i : Int) < (N : Int) := by omega
      have t6 : (0 : Int) ≤ (i : Int) := by omega
      obtain ⟨b1, o1, rfl, hbl, hcc⟩ := HZ.out (by omega)
      obtain ⟨y, hy⟩ : ∃ y, y = xs.getD i 0 := ⟨_, rfl⟩
      have hcell : wr.cell? ⟨b1, o1 + i, none⟩ = some (.int .i64 y) := (S5.out.bel.cell hbl).trans (by rw [hy]; exact hcc i (by omega))
      have CL := Lib.hid (fun (W : World) (hW : Below w.heap.size w W) => (show W.cell? ⟨b1, o1 + i, none⟩ = some (.int .i64 y) from (hW.cell hbl).trans (by rw [hy]; exact hcc i (by omega))))
      clear hcc hy
      by_cases hneg : y < 0
      · have t7 : decide (y < 0) = true := decide_eq_true hneg
        have PT := Lib.hid (sg_take S5.out HV.out)
        cases l with
        | nil =>
          obtain rfl : n = 0 := HL.out
          rw [show takeQ [] = .tuple #[.agg #[.int .i64 0, .int .i64 0], .bool false] from rfl, show ([] : List Pl).tail = [] from rfl] at PT
          go_wp2_with fail
          refine PT.out.mono ?_
          rintro e w3 ⟨rfl, q1, q2, -, q4⟩
          obtain ⟨W3, hW3⟩ : ∃ W3, W3 = w3.alloc (.cells #[Value.int .i64 0, Value.int .i64 0] 29) := ⟨_, rfl⟩
          have hb3 : Below w3.heap.size w3 W3 := by rw [hW3]; exact belAl (Below.refl _ _) _
          have S3 := Lib.hid (q1.fresh hb3)
          have R3 := Lib.hid ((R5.out.keep (fun k hk => q2 k (HV.out k hk) hk) q4).fresh hb3)
          have hB : Blk W3 w3.heap.size 29 #[Value.int .i64 0, Value.int .i64 0] := by rw [hW3]; exact Blk.new _ _ _
          have k0 := hB.cell 0
          have k1 := hB.cell 1
          clear q1 q2 q4 hb3 hB
          go_wp2_with fail
          rw [← hW3]
          clear hW3
          go_quiet (fail)
          have S4 := Lib.hid (S3.out.fresh (below_drewN (Below.refl _ _) nq))
          have R4 := Lib.hid (R3.out.fresh (below_drewN (Below.refl _ _) nq))
          have LN := Lib.hid (sg_len S4.out)
          rw [show ((([] : List Pl).length : Nat) : Int) = 0 from rfl] at LN
          clear k0 k1
          go_wp2_with fail
          refine LN.out.mono ?_
          rintro e w8 ⟨rfl, hb⟩
          have S8 := Lib.hid (S4.out.widen (Z' := fun k => (Value.slice B7 0 cap).ownBlock = some k) hb (fun k hk => .inl hk))
          have R8 := Lib.hid (R4.out.fresh hb)
          clear hb
          go_wp2_with fail
          go_roundg (N - (i + 1))
          case measure => omega
          case rel => exact ⟨i + 1, [], by omega, by go_num, S8.out, R8.out⟩
        | cons p l' =>
          obtain ⟨pc, pg⟩ := p
          obtain ⟨n', hn'⟩ : ∃ n', n' = l'.length := ⟨_, rfl⟩
          have HNN := Lib.hid (show n = n' + 1 from by rw [HL.out, hn']; rfl)
          have HL' := Lib.hid hn'
          clear hn'
          have hn0 : 0 < n := by have := HNN.out; omega
          have v1 : decide ((0 : Int) < (n : Int)) = true := decide_eq_true (by omega)
          have v2 : (0 : Int) < (n : Int) := by omega
          rw [show takeQ (⟨pc, pg⟩ :: l') = .tuple #[.agg #[.int .i64 pc, .int .i64 pg], .bool true] from rfl, show ((⟨pc, pg⟩ : Pl) :: l').tail = l' from rfl] at PT
          obtain ⟨g, o, cap', he, -, hce⟩ := R5.out.some_ (by omega)
          injection he with he1 he2 he3
          subst he1 he3
          clear hce
          go_wp2_with fail
          refine PT.out.mono ?_
          rintro e w3 ⟨rfl, q1, q2, -, q4⟩
          obtain ⟨W3, hW3⟩ : ∃ W3, W3 = w3.alloc (.cells #[Value.int .i64 pc, Value.int .i64 pg] 29) := ⟨_, rfl⟩
          have hb3 : Below w3.heap.size w3 W3 := by rw [hW3]; exact belAl (Below.refl _ _) _
          have S3 := Lib.hid (q1.fresh hb3)
          have hr3 := R5.out.keep (fun k hk => q2 k (HV.out k hk) hk) q4
          have R3 := Lib.hid (hr3.fresh hb3)
          have hB : Blk W3 w3.heap.size 29 #[Value.int .i64 pc, Value.int .i64 pg] := by rw [hW3]; exact Blk.new _ _ _
          have k0 := hB.cell 0
          have k1 := hB.cell 1
          obtain ⟨g', o', cap', he, -, hce⟩ := R3.out.some_ (by omega)
          cases he
          have d0 : W3.cell? ⟨g, o, none⟩ = some (.int .i64 pc) := hce 0 _ rfl
          have d1 : W3.cell? ⟨g, o + 1, none⟩ = some (.int .i64 pg) := hce 1 _ rfl
          clear q1 q2 q4 hb3 hB hr3 hce
          go_wp2_with fail
          rw [← hW3]
          clear hW3
          go_quiet (fail)
          have S4 := Lib.hid (S3.out.fresh (below_drewN (Below.refl _ _) nq))
          have R4 := Lib.hid (R3.out.fresh (below_drewN (Below.refl _ _) nq))
          have LN := Lib.hid (sg_len S4.out)
          rw [← HL'.out] at LN
          clear k0 k1 d0 d1
          have e1 : n - 1 = n' := by have := HNN.out; omega
          have e3 : (n : Int) - 1 = (n' : Int) := by have := HNN.out; omega
          have e6 : (1 : Int) ≤ (n : Int) := by omega
          have e8 : (1 : Int) ≤ (cap : Int) := by omega
          have e9 : (n : Int) ≤ (cap : Int) := by omega
          have ed : 1 ≤ cap := by omega
          have ee : 1 ≤ n := by omega
          by_cases hc1 : cap = 1
          · have hn1 : n = 1 := by omega
            subst hc1
            subst hn1
            obtain rfl : n' = 0 := by have := HNN.out; omega
            have hl0 : l' = [] := List.eq_nil_of_length_eq_zero HL'.out.symm
            have R5' := Lib.hid R4.out.tail1
            clear v1 v2 e1 e3 e6 e8 e9 ed ee
            go_wp2_with fail
            refine LN.out.mono ?_
            rintro e w8 ⟨rfl, hb⟩
            have S8 := Lib.hid (S4.out.widen (Z' := fun k => some g = some k) hb (fun k hk => .inl hk))
            have R8 := Lib.hid (R5'.out.fresh hb)
            clear hb
            go_wp2_with fail
            go_roundg (N - (i + 1))
            case measure => omega
            case rel => exact ⟨i + 1, l', by omega, by go_num, S8.out, by rw [← HL'.out]; exact (by rw [hl0]; exact R8.out)⟩
          · obtain ⟨c2, hc2⟩ : ∃ c2, c2 = cap - 1 := ⟨_, rfl⟩
            have e2 : cap - 1 = c2 := hc2.symm
            have e4 : (cap : Int) - 1 = (c2 : Int) := by omega
            have hcc2 : cap = c2 + 1 := by omega
            have R5' := Lib.hid (show RowAt (W3.drewN nq) w.heap.size 2 (.slice (some ⟨g, o + 2, none⟩) n' c2) n' (flatP l') from by
              have h := R4.out
              rw [HNN.out, hcc2] at h
              exact h.tail)
            clear hc2 hcc2
            go_wp2_with fail
            refine LN.out.mono ?_
            rintro e w8 ⟨rfl, hb⟩
            have S8 := Lib.hid (S4.out.widen (Z' := fun k => some g = some k) hb (fun k hk => .inl hk))
            have R8 := Lib.hid (R5'.out.fresh hb)
            clear hb
            go_wp2_with fail
            go_roundg (N - (i + 1))
            case measure => omega
            case rel => exact ⟨i + 1, l', by omega, by go_num, S8.out, by rw [← HL'.out]; exact R8.out⟩
      · have t7 : decide (y < 0) = false := decide_eq_false hneg
        obtain ⟨g3, hg3⟩ : ∃ g3, g3 = wr.heap.size := ⟨_, rfl⟩
        obtain ⟨W1, hW1⟩ : ∃ W1, W1 = wr.alloc (.cells #[Value.int .i64 (i : Int), Value.int .i64 y] 29) := ⟨_, rfl⟩
        have HB1 := Lib.hid (show Below wr.heap.size wr W1 from by rw [hW1]; exact belAl (Below.refl _ _) _)
        have K1 := Lib.hid (show Blk W1 g3 29 #[Value.int .i64 (i : Int), Value.int .i64 y] from by rw [hW1, hg3]; exact Blk.new _ _ _)
        have k0 := K1.out.cell 0
        have k1 := K1.out.cell 1
        have HG := Lib.hid hg3
        have S6 := Lib.hid (S5.out.widen (Z' := fun k => k = g3 ∨ (Value.slice B7 n cap).ownBlock = some k) HB1.out (fun k hk => hk.elim (fun e => .inr (by rw [e, hg3]; exact Nat.le_refl _)) .inl))
        have R6 := Lib.hid (R5.out.fresh HB1.out)
        have Z6 := Lib.hid (show ∀ k, (k = g3 ∨ (Value.slice B7 n cap).ownBlock = some k) → k < W1.heap.size from fun k hk => hk.elim (fun e => by rw [e]; exact K1.out.lt) (fun h => Nat.lt_of_lt_of_le (HV.out k h) HB1.out.size))
        have PT := Lib.hid (sg_put S6.out Z6.out ⟨(i : Int), y⟩)
        rw [← HL.out] at PT
        by_cases hf : n < m
        · have u1 : decide ((n : Int) < (m : Int)) = true := decide_eq_true (by omega)
          rw [decide_eq_true hf, putQ_in _ (by rw [← HL.out]; exact hf)] at PT
          go_wp2_with fail
          rw [← hW1, ← hg3]
          clear hW1 hg3
          refine PT.out.mono ?_
          rintro e w3 ⟨rfl, q1, q2, -, q4⟩
          have S7 := Lib.hid q1
          have K7 := Lib.hid (show Blk w3 g3 29 #[Value.int .i64 (i : Int), Value.int .i64 y] from (q2 g3 K1.out.lt (.inl rfl)).trans K1.out)
          have R7 := Lib.hid (R6.out.keep (fun k hk => q2 k (Z6.out k (.inr hk)) (.inr hk)) q4)
          clear q1 q2 q4 k0 k1
          have k0 := K7.out.cell 0
          have k1 := K7.out.cell 1
          obtain ⟨iP, hiP, hp0, hp1, hp2⟩ := info_parts Try.infoSgT
          have HIP := Lib.hid hiP
          have HP0 := Lib.hid hp0
          have HP1 := Lib.hid hp1
          have HP2 := Lib.hid hp2
          obtain ⟨W8, hW8⟩ : ∃ W8, W8 = w3.alloc (.cells #[Value.int .i64 (i : Int), Value.int .i64 y] 29) := ⟨_, rfl⟩
          have HB8 := Lib.hid (show Below w3.heap.size w3 W8 from by rw [hW8]; exact belAl (Below.refl _ _) _)
          have RA := Lib.hid (show RowAt (w3.alloc (.cells #[Value.int .i64 (i : Int), Value.int .i64 y] 29)) w.heap.size 2 (.slice B7 n cap) n (flatP l) from by rw [← hW8]; exact R7.out.fresh HB8.out)
          have HU1 := Lib.hid (show ∀ u ∈ [Value.int .i64 (i : Int), Value.int .i64 y], u.oneCell' = true from flatP_one [⟨(i : Int), y⟩])
          have HQ1 := Lib.hid (show n + 1 ≤ maxLen from by unfold maxLen; omega)
          have HQ2 := Lib.hid (show (n + 1) * 16 ≤ 140737488355328 from by omega)
          have HQ3 := Lib.hid (show w.heap.size ≤ (w3.alloc (.cells #[Value.int .i64 (i : Int), Value.int .i64 y] 29)).heap.size from by rw [← hW8]; exact Nat.le_trans S7.out.bel.size HB8.out.size)
          have S8 := Lib.hid (show SigT w (w3.alloc (.cells #[Value.int .i64 (i : Int), Value.int .i64 y] 29)) gQ m (l ++ [⟨(i : Int), y⟩]) (fun k => k = g3 ∨ (Value.slice B7 n cap).ownBlock = some k) from by rw [← hW8]; exact S7.out.fresh HB8.out)
          have CN := Lib.hid (cells_new w3 29 [Value.int .i64 (i : Int), Value.int .i64 y])
          clear hiP hp0 hp1 hp2 hW8
          go_wp2_with (refine wpList_append_at rfl (.tmp 80) (.tmp 82) 27 rfl w.heap.size 29 iP (.agg (plV pl0)) 2 16 Try.underlying27 HIP.out HP0.out HP1.out HP2.out rfl (by decide) _ _ _ rfl RA.out ⟨w3.heap.size, 0, none⟩ 1 [Value.int .i64 (i : Int), Value.int .i64 y] rfl rfl CN.out HU1.out HQ1.out HQ2.out HQ3.out ?_; intro v9 w9 hr9 hg9 ho9; obtain ⟨A9, c9, rfl, hc9⟩ := hr9.len; have R9 := Lib.hid hr9; have G9 := Lib.hid hg9; have O9 := Lib.hid ho9; clear hr9 hg9 ho9)
          have S9 := Lib.hid (S8.out.grown (Z' := fun k => (Value.slice A9 (n + 1) c9).ownBlock = some k) G9.out (fun k hk => ⟨.inr hk, HV0.out k hk⟩) (fun k hk => O9.out.elim (fun e => .inl (.inr (e.symm.trans hk))) (fun h => .inr (h k hk))))
          have LN := Lib.hid (sg_len S9.out)
          rw [List.length_append, ← HL.out, show [(⟨(i : Int), y⟩ : Pl)].length = 1 from rfl] at LN
          clear k0 k1
          go_wp2_with fail
          refine LN.out.mono ?_
          rintro e w10 ⟨rfl, hb⟩
          have S10 := Lib.hid (S9.out.widen (Z' := fun k => (Value.slice A9 (n + 1) c9).ownBlock = some k) hb (fun k hk => .inl hk))
          have R10 := Lib.hid (R9.out.fresh hb)
          clear hb
          go_wp2_with fail
          go_roundg (N - (i + 1))
          case measure => omega
          case rel => exact ⟨i + 1, _, by omega, by go_num, S10.out, by rw [List.length_append, ← HL.out, ← flatP_two]; exact R10.out⟩
        · have u1 : decide ((n : Int) < (m : Int)) = false := decide_eq_false (by omega)
          rw [decide_eq_false hf, putQ_out _ (by rw [← HL.out]; exact hf)] at PT
          go_wp2_with fail
          rw [← hW1, ← hg3]
          clear hW1 hg3
          refine PT.out.mono ?_
          rintro e w3 ⟨rfl, q1, q2, -, q4⟩
          have S7 := Lib.hid q1
          have R7 := Lib.hid (R6.out.keep (fun k hk => q2 k (Z6.out k (.inr hk)) (.inr hk)) q4)
          clear q1 q2 q4 k0 k1
          have LN := Lib.hid (sg_len S7.out)
          rw [← HL.out] at LN
          go_wp2_with fail
          refine LN.out.mono ?_
          rintro e w8 ⟨rfl, hb⟩
          have S8 := Lib.hid (S7.out.widen (Z' := fun k => (Value.slice B7 n cap).ownBlock = some k) hb (fun k hk => .inl (.inr hk)))
          have R8 := Lib.hid (R7.out.fresh hb)
          clear hb
          go_wp2_with fail
          go_roundg (N - (i + 1))
          case measure => omega
          case rel => exact ⟨i + 1, l, by omega, by go_num, S8.out, by rw [← HL.out]; exact R8.out⟩
    · obtain rfl : i = N := by omega
      have t4 : decide ((i : Int) < (i : Int)) = false := decide_eq_false (by omega)
      go_wp2_with fail
      refine (sigAnswers_any _).mono ?_
      rintro e w8 ⟨rfl, hb⟩
      have S8 := Lib.hid (S5.out.bel.trans (hb.mono S5.out.bel.size))
      clear hb
      go_wp2
      go_ret
      exact ⟨rfl, S8.out⟩
end Go.Proofs.Ytkdniihnilcpfaa
