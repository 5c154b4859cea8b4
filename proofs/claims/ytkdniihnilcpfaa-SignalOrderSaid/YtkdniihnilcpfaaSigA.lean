/-
  Layer 18's own question 'answers', SignalFull, SignalOrder and SignalRound answer true.
  Conditions: none beside the queue's contracts.
-/
import Derived.Test.YtkdniihnilcpfaaSigL
import Derived.Deep.LoopGhost
namespace Go.Proofs.Ytkdniihnilcpfaa
open Go.RowKit
set_option linter.unusedVariables false

theorem putQ_in {m : Nat} {l : List Pl} (p : Pl) (h : l.length < m) : putQ m l p = l ++ [p] := if_pos h
theorem putQ_out {m : Nat} {l : List Pl} (p : Pl) (h : ¬ l.length < m) : putQ m l p = l := if_neg h
theorem near16_in {n : Nat} (h : n ≤ 16) : near16 (n : Int) = n := by
  unfold near16
  rw [if_neg (by omega), if_neg (by omega), Int.toNat_natCast]
theorem near16_min (n : Nat) : near16 (n : Int) = min n 16 := by
  unfold near16
  rw [if_neg (by omega)]
  split
  · omega
  · rw [Int.toNat_natCast]; omega
set_option maxRecDepth 20000
set_option maxHeartbeats 1600000
theorem cut16_any (n : Int) (w : World) : Calls Try.prog 9 #[.int .i64 n, .int .i64 0, .int .i64 16] w fun e w' => e = .returned (.int .i64 ((near16 n : Nat) : Int)) ∧ w = w' := by
  by_cases c1 : n < 0
  · have d1 : decide (n < 0) = true := decide_eq_true c1
    rw [show near16 n = 0 from if_pos c1]
    go_enter Try.func9, Try.ntmps9
    go_wp2
    go_ret
    exact ⟨rfl, rfl⟩
  · have d1 : decide (n < 0) = false := decide_eq_false c1
    by_cases c2 : 16 < n
    · have d2 : decide (16 < n) = true := decide_eq_true c2
      rw [show near16 n = 16 from by unfold near16; rw [if_neg c1, if_pos c2]]
      go_enter Try.func9, Try.ntmps9
      go_wp2
      go_ret
      exact ⟨rfl, rfl⟩
    · have d2 : decide (16 < n) = false := decide_eq_false c2
      have e : ((near16 n : Nat) : Int) = n := by unfold near16; rw [if_neg c1, if_neg c2]; omega
      rw [e]
      clear e
      go_enter Try.func9, Try.ntmps9
      go_wp2
      go_ret
      exact ⟨rfl, rfl⟩
theorem sigAnswers_any (w : World) :
    Calls Try.prog 7 #[] w fun e w' => e = .returned (.bool true) ∧ Below w.heap.size w w' := by
  go_enter Try.func7, Try.ntmps7
  go_wp2_with fail
  refine (sg_new w w 2 (Below.refl _ _) (fun _ => False) (noZq w)).mono ?_
  rintro e w1 ⟨gQ, rfl, h1, -⟩
  rw [show near16 2 = 2 from rfl] at h1
  have S1 := Lib.hid h1
  have P2 := Lib.hid (sg_put h1 (noZq w1) ⟨1, 5⟩)
  rw [show decide (([] : List Pl).length < 2) = true from rfl, show putQ 2 [] ⟨1, 5⟩ = [⟨1, 5⟩] from rfl] at P2
  clear h1
  go_wp2_with fail
  refine P2.out.mono ?_
  rintro e w2 ⟨rfl, h2, -, -, -⟩
  have S2 := Lib.hid h2
  have P3 := Lib.hid (sg_len h2)
  rw [show ((([(⟨1, 5⟩ : Pl)].length : Nat)) : Int) = 1 from rfl] at P3
  clear h2
  go_wp2_with fail
  refine P3.out.mono ?_
  rintro e w3 ⟨rfl, hb⟩
  have S3 := Lib.hid (S2.out.fresh hb)
  have P4 := Lib.hid (sg_take S3.out (noZq w3))
  rw [show takeQ [(⟨1, 5⟩ : Pl)] = .tuple #[.agg #[.int .i64 1, .int .i64 5], .bool true] from rfl, show [(⟨1, 5⟩ : Pl)].tail = [] from rfl] at P4
  clear hb
  go_wp2_with fail
  refine P4.out.mono ?_
  rintro e w4 ⟨rfl, h4, -, -, -⟩
  have hbl := Blk.new w4 29 #[Value.int .i64 1, Value.int .i64 5]
  have k0 := hbl.cell 0
  have k1 := hbl.cell 1
  have S4 := Lib.hid (h4.fresh ((Below.refl _ w4).alloc (Nat.le_refl _) (.cells #[Value.int .i64 1, Value.int .i64 5] 29)))
  have P5 := Lib.hid (sg_len S4.out)
  rw [show ((([] : List Pl).length : Nat) : Int) = 0 from rfl] at P5
  clear h4 hbl
  go_wp2_with fail
  refine P5.out.mono ?_
  rintro e w5 ⟨rfl, hb⟩
  have S5 := Lib.hid (S4.out.fresh hb)
  clear hb
  go_wp2
  go_ret
  exact ⟨rfl, S5.out.bel⟩

/-! ### SignalFull -/
theorem signalFull_any (x : Nat) (c g : Int) (w : World) (hx : x < 256) :
    Calls Try.prog 4 #[.int .u8 (x : Int), .agg #[.int .i64 c, .int .i64 g]] w fun e w' => e = .returned (.bool true) ∧ Below w.heap.size w w' := by
  obtain ⟨r, hr⟩ : ∃ r, r = x % 20 := ⟨_, rfl⟩
  have r1 : (x : Int).tmod 20 = (r : Int) := by rw [Int.tmod_eq_emod_of_nonneg (by omega)]; omega
  have r2 : (x : Int) % 20 = (r : Int) := by omega
  have hr20 : r < 20 := by omega
  clear hr
  have HB := Lib.hid (belAl (Below.refl w.heap.size w) (.cells #[.int .i64 c, .int .i64 g] 29))
  have HK := Lib.hid (Blk.new w 29 #[.int .i64 c, .int .i64 g])
  obtain ⟨m, hm⟩ : ∃ m, m = near16 (r : Int) := ⟨_, rfl⟩
  have hm2 : m = min r 16 := by rw [hm, near16_min]
  have hmr : m ≤ r ∧ m ≤ 16 ∧ (m = r ∨ m = 16) := by omega
  have CU := Lib.hid (fun W => cut16_any (r : Int) W)
  simp only [← hm] at CU
  obtain ⟨g3, hg3⟩ : ∃ g3, g3 = w.heap.size := ⟨_, rfl⟩
  go_enter Try.func4, Try.ntmps4
  go_wp2_with fail
  obtain ⟨W1, hW1⟩ : ∃ W1, W1 = w.alloc (.cells #[.int .i64 c, .int .i64 g] 29) := ⟨_, rfl⟩
  rw [← hW1] at HB HK ⊢
  rw [← hg3] at HK ⊢
  have HG := Lib.hid hg3
  have HMM := Lib.hid hm
  clear hW1 hg3
  refine (sg_new W1 W1 (r : Int) (Below.refl _ _) (fun k => k = g3) (fun k hk => by rw [hk]; exact HK.out.lt)).mono ?_
  rintro e w2 ⟨gQ, rfl, h2, -⟩
  rw [← hm] at h2
  clear hm hm2
  have H2 := Lib.hid h2
  have K2 := Lib.hid (HK.out.below h2.bel HK.out.lt)
  clear h2
  go_wp2_with fail
  go_loopg [7, 8] 25 (fun gg s7 s8 wx => ∃ (i n : Nat) (l : List Pl), i + gg = 25 ∧ s8 = .int .i64 (i : Int) ∧ s7 = .int .i64 (n : Int) ∧ l.length = n ∧ n = min i m ∧ SigT W1 wx gQ m l (fun k => k = g3) ∧ Blk wx g3 29 #[.int .i64 c, .int .i64 g])
  case atStart => exact ⟨0, 0, [], by omega, rfl, rfl, rfl, by omega, H2.out, K2.out⟩
  case round =>
    obtain ⟨i, n, l, hig, rfl, rfl, hl, hn, h5, k5⟩ := hrel
    have S5 := Lib.hid h5
    have K5 := Lib.hid k5
    have k0 := k5.cell 0
    have k1 := k5.cell 1
    have HL := Lib.hid hl
    have HN := Lib.hid hn
    clear h5 k5 H2 K2 hl hn
    by_cases hlt : i < 25
    · have t4 : decide ((i : Int) < 25) = true := decide_eq_true (by omega)
      have PT := Lib.hid (sg_put S5.out (fun k hk => by rw [hk]; exact K5.out.lt) ⟨c, g⟩)
      by_cases hf : n < m
      · rw [HL.out, decide_eq_true hf, putQ_in _ (by rw [HL.out]; exact hf)] at PT
        go_wp2_with fail
        refine PT.out.mono ?_
        rintro e w3 ⟨rfl, h4, h5, -, h6⟩
        have K3 := Lib.hid (show Blk w3 g3 29 #[.int .i64 c, .int .i64 g] from (h5 g3 K5.out.lt rfl).trans K5.out)
        have H3 := Lib.hid h4
        clear h4 h5 h6 k0 k1
        go_wp2_with fail
        go_roundg (25 - (i + 1))
        case measure => omega
        case rel => exact ⟨i + 1, n + 1, _, by omega, by go_num, by go_num, by rw [List.length_append, HL.out]; rfl, by have := HN.out; omega, H3.out, K3.out⟩
      · rw [HL.out, decide_eq_false hf, putQ_out _ (by rw [HL.out]; exact hf)] at PT
        go_wp2_with fail
        refine PT.out.mono ?_
        rintro e w3 ⟨rfl, h4, h5, -, h6⟩
        have K3 := Lib.hid (show Blk w3 g3 29 #[.int .i64 c, .int .i64 g] from (h5 g3 K5.out.lt rfl).trans K5.out)
        have H3 := Lib.hid h4
        clear h4 h5 h6 k0 k1
        go_wp2_with fail
        go_roundg (25 - (i + 1))
        case measure => omega
        case rel => exact ⟨i + 1, n, _, by omega, by go_num, rfl, HL.out, by have := HN.out; omega, H3.out, K3.out⟩
    · obtain rfl : i = 25 := by omega
      have hnm : n = m := by have := HN.out; omega
      subst hnm
      go_wp2_with fail
      refine (signal_take_nil _).mono ?_
      rintro e w6 ⟨rfl, hb⟩
      rw [show takeQ [] = .tuple #[.agg #[.int .i64 0, .int .i64 0], .bool false] from rfl]
      obtain ⟨W6, hW6⟩ : ∃ W6, W6 = w6.alloc (.cells #[Value.int .i64 0, Value.int .i64 0] 29) := ⟨_, rfl⟩
      have hb6 : Below wr.heap.size wr W6 := by rw [hW6]; exact belAl hb _
      have S6 := Lib.hid (S5.out.fresh hb6)
      have K6 := Lib.hid (K5.out.below hb6 K5.out.lt)
      have Z6 := Lib.hid (show Blk W6 w6.heap.size 29 #[Value.int .i64 0, Value.int .i64 0] from by rw [hW6]; exact Blk.new _ _ _)
      clear hb hb6 k0 k1
      go_wp2_with fail
      rw [← hW6]
      clear hW6
      refine (sigAnswers_any _).mono ?_
      rintro e w7 ⟨rfl, hb⟩
      have S7 := Lib.hid (S6.out.fresh hb)
      have K7 := Lib.hid (K6.out.below hb K6.out.lt)
      have Z7 := Lib.hid (Z6.out.below hb Z6.out.lt)
      have C7 := Lib.hid (CU.out w7)
      have L7 := Lib.hid (sg_len S7.out)
      rw [HL.out] at L7
      clear hb
      go_wp2_with (go_at_call 9; refine C7.out.mono ?_; rintro e w' ⟨rfl, rfl⟩)
      refine L7.out.mono ?_
      rintro e w8 ⟨rfl, hb⟩
      have S8 := Lib.hid (S7.out.fresh hb)
      have K8 := Lib.hid (K7.out.below hb K7.out.lt)
      have Z8 := Lib.hid (Z7.out.below hb Z7.out.lt)
      have k0 := K8.out.cell 0
      have k1 := K8.out.cell 1
      clear hb
      go_wp2_with fail
      refine (signal_put_nil _ c g).mono ?_
      rintro e w9 ⟨rfl, hb⟩
      have S9 := Lib.hid (S8.out.fresh hb)
      have Z9 := Lib.hid (Z8.out.below hb Z8.out.lt)
      clear hb k0 k1
      have k0 := Z9.out.cell 0
      have k1 := Z9.out.cell 1
      go_wp2_with fail
      refine (signal_len_nil _).mono ?_
      rintro e w10 ⟨rfl, hb⟩
      have S10 := Lib.hid (S9.out.fresh hb)
      clear hb
      go_wp2
      go_ret
      exact ⟨rfl, HB.out.trans (S10.out.bel.mono HB.out.size)⟩
end Go.Proofs.Ytkdniihnilcpfaa
