/-
  SwapShared answers true.
  Conditions: the places are read in memory.
-/
import Derived.Test.YthfcmfhmaokioaaSwpQ
import Derived.Deep.LoopGhost
namespace Go.Proofs.Ythfcmfhmaokioaa
open Go.RowKit
set_option linter.unusedVariables false

/-- The first slot is held by these, no other one by anybody. -/
def one0 (m : List Pl) : SS := updS ss0 0 m
theorem one0_nil : one0 [] = ss0 := by
  funext k
  unfold one0 updS ss0
  split <;> rfl
theorem one0_hold (m : List Pl) (p : Pl) : holdS (one0 m) 0 p = one0 (putP m p) := by
  have h : holdS (one0 m) 0 p = updS (one0 m) 0 (putP (one0 m 0) p) := if_pos ⟨by decide, by decide⟩
  rw [h]
  funext k
  unfold one0 updS
  split <;> rfl
theorem one0_rel (m : List Pl) (p : Pl) : relS (one0 m) 0 p = one0 (m.erase p) := by
  have h : relS (one0 m) 0 p = updS (one0 m) 0 ((one0 m 0).erase p) := if_pos ⟨by decide, by decide⟩
  rw [h]
  funext k
  unfold one0 updS
  split <;> rfl
theorem one0_in (m : List Pl) (p : Pl) : inS (one0 m) 0 p = decide (p ∈ m) := by
  unfold inS
  rw [decide_eq_true (show isSlot 0 from ⟨by decide, by decide⟩)]
  rfl
theorem one0_take {m : List Pl} (h : m ≠ []) : TakeIs (one0 m) (some 1) := ⟨by decide, rfl, fun k hk => by
  obtain rfl : k = 0 := by omega
  exact h⟩
theorem one0_take0 : TakeIs (one0 []) (some 0) := ⟨by decide, rfl, fun k hk => absurd hk (Nat.not_lt_zero _)⟩
theorem one0_used {m : List Pl} (h : m ≠ []) : usedS (one0 m) 32 = 1 := by
  have key : ∀ n, usedS (one0 m) (n + 1) = 1 := by
    intro n
    induction n with
    | zero => rw [usedS_succ, show usedS (one0 m) 0 = 0 from rfl, if_pos (show one0 m 0 ≠ [] from h)]
    | succ n ih => rw [usedS_succ, ih, if_neg (show ¬ (one0 m (n + 1) ≠ []) from fun e => e rfl)]
  exact key 31
theorem one0_used0 : usedS (one0 []) 32 = 0 := by rw [one0_nil]; decide
theorem drop_cons_getD {l : List Pl} {j : Nat} (h : j < l.length) : l.drop j = l.getD j pl0 :: l.drop (j + 1) := by
  rw [List.drop_eq_getElem_cons h]
  simp [h]
set_option maxRecDepth 20000
set_option maxHeartbeats 3200000
theorem swapShared_edge (A : Option Addr) (l c : Nat) (w : World) (h : l = 0 ∨ 40 < l) :
    Calls Try.prog 6 #[.slice A l c] w fun e w' => e = .returned (.bool true) ∧ Below w.heap.size w w' := by
  rcases h with rfl | h
  · go_enter Try.func6, Try.ntmps6
    go_wp2_with fail
    refine (swpAnswers_any _).mono ?_
    rintro e w1 ⟨rfl, hb⟩
    go_wp2
    go_ret
    exact ⟨rfl, hb⟩
  · have t0 : ((l : Int) == 0) = false := by simp; omega
    have t1 : decide ((40 : Int) < (l : Int)) = true := decide_eq_true (by omega)
    go_enter Try.func6, Try.ntmps6
    go_wp2_with fail
    refine (swpAnswers_any _).mono ?_
    rintro e w1 ⟨rfl, hb⟩
    go_wp2
    go_ret
    exact ⟨rfl, hb⟩
theorem getD_memP {l : List Pl} {i : Nat} (h : i < l.length) : l.getD i pl0 ∈ l := by
  rw [List.getD_eq_getElem?_getD, List.getElem?_eq_getElem h]
  exact List.getElem_mem _
theorem swapShared_any (v0 : Value) (ps : List Pl) (w : World) (h0 : Pls w w.heap.size v0 ps) (hw : ∀ p ∈ ps, WPl p) (hl : ps.length ≤ 40) (hl0 : 0 < ps.length) :
    Calls Try.prog 6 #[v0] w fun e w' => e = .returned (.bool true) ∧ Below w.heap.size w w' := by
  obtain ⟨A, N, c, rfl, hN, h1, h2, h3, h4⟩ := h0
  have HZ := Lib.hid h4
  have HN := Lib.hid hN
  have hN40 : N ≤ 40 := by omega
  have hN0 : 0 < N := by omega
  have t0 : ((N : Int) == 0) = false := by simp; omega
  have t1 : decide ((40 : Int) < (N : Int)) = false := decide_eq_false (by omega)
  have HW := Lib.hid hw
  clear hN h1 h2 h3 h4 hl hl0 hw
  go_enter Try.func6, Try.ntmps6
  go_wp2_with fail
  refine (sw_new w w (Below.refl _ _) (fun _ => False) (noZs w)).mono ?_
  rintro e w1 ⟨gS, rfl, h1, -⟩
  rw [← one0_nil] at h1
  have S1 := Lib.hid h1
  clear h1
  go_wp2_with fail
  go_loopg [4, 5] N (fun gg s4 s5 wx => ∃ (i : Nat) (l : List Pl) (Z : Nat → Prop), i + gg = N ∧ s5 = .int .i64 (i : Int) ∧ SwpT w wx gS (one0 l) Z ∧ (∀ k, Z k → k < wx.heap.size) ∧ Pls wx wx.heap.size s4 l ∧ Shp s4 ∧ InZ Z s4 ∧ l.length ≤ i ∧ SrtP l ∧ ∀ q ∈ l, WPl q)
  case atStart => exact ⟨0, [], fun _ => False, by omega, rfl, S1.out, noZs _, Pls.nil_ _ _, ⟨_, _, _, rfl, .inl rfl⟩, (fun a n c e => by cases e), Nat.le_refl _, List.Pairwise.nil, (fun q h => absurd h List.not_mem_nil)⟩
  case round =>
    obtain ⟨i, l, Z, hig, rfl, h5, hz, h6, h7, h8, hle, hsr, hwq⟩ := hrel
    have S5 := Lib.hid h5
    have Z5 := Lib.hid hz
    have P5 := Lib.hid h6
    have H5 := Lib.hid h7
    have I5 := Lib.hid h8
    have LE := Lib.hid hle
    have SR := Lib.hid hsr
    have WQ := Lib.hid hwq
    clear S1 h5 hz h7 h8 hle hsr hwq
    by_cases hlt : i < N
    · have t4 : decide ((i : Int) < (N : Int)) = true := decide_eq_true (by omega)
      have t5 : (i : Int) < (N : Int) := by omega
      have t6 : (0 : Int) ≤ (i : Int) := by omega
      obtain ⟨b1, o1, rfl, hbl, hcc⟩ := HZ.out (by omega)
      obtain ⟨⟨pc, pg⟩, hp⟩ : ∃ p, p = ps.getD i pl0 := ⟨_, rfl⟩
      obtain ⟨c0, c1⟩ := hcc i hlt
      rw [← hp] at c0 c1
      have WP := Lib.hid (show WPl ⟨pc, pg⟩ from by rw [hp]; exact HW.out _ (getD_memP (by rw [HN.out]; exact hlt)))
      have CL := Lib.hid (fun (W : World) (hW : Below w.heap.size w W) => (⟨(hW.cell hbl).trans c0, (hW.cell hbl).trans c1⟩ : W.cell? ⟨b1, o1 + i * 2, none⟩ = some (.int .i64 pc) ∧ W.cell? ⟨b1, o1 + i * 2 + 1, none⟩ = some (.int .i64 pg)))
      have k0 := (CL.out _ S5.out.bel).1
      have k1 := (CL.out _ S5.out.bel).2
      have CA := Lib.hid (sw_hold S5.out Z5.out 0 ⟨pc, pg⟩ WP.out (show (l).length ≤ 100000 from by have := LE.out; omega))
      rw [one0_hold, decide_eq_true (show isSlot 0 from ⟨by decide, by decide⟩)] at CA
      clear hcc hp c0 c1 h6
      go_wp2_with fail
      refine CA.out.mono ?_
      rintro e w3 ⟨rfl, q1, q2, -, q4⟩
      have S3 := Lib.hid q1
      have P3 := Lib.hid (P5.out.keepZ I5.out q2 q4)
      have Z3 := Lib.hid (fun k hk => Nat.lt_of_lt_of_le (Z5.out k hk) q4)
      clear q1 q2 q4 k0 k1
      have k0 := (CL.out _ S3.out.bel).1
      have k1 := (CL.out _ S3.out.bel).2
      have CP := Lib.hid (refPut_any _ l ⟨pc, pg⟩ w3 P3.out H5.out (by have := LE.out; omega))
      go_wp2_with fail
      refine CP.out.mono ?_
      rintro e w4 ⟨v4, rfl, ⟨j1, j2, j3⟩, j4⟩
      have S4 := Lib.hid (S3.out.widen (Z' := fun k => Z k ∨ (w3.heap.size ≤ k ∧ k < w4.heap.size)) j4 (fun k hk => hk.imp id (fun h => h.1)))
      have Z4 := Lib.hid (show ∀ k, (Z k ∨ (w3.heap.size ≤ k ∧ k < w4.heap.size)) → k < w4.heap.size from fun k hk => hk.elim (fun h => Nat.lt_of_lt_of_le (Z3.out k h) j4.size) (fun h => h.2))
      have I4 := Lib.hid (j1.newZ j3 I5.out)
      have P4 := Lib.hid j1
      have H4 := Lib.hid j2
      clear j1 j2 j3 j4 k0 k1
      go_wp2_with fail
      go_roundg (N - (i + 1))
      case measure => omega
      case rel => exact ⟨i + 1, _, _, by omega, by go_num, S4.out, Z4.out, P4.out, H4.out, I4.out, by have := LE.out; have := putP_length l ⟨pc, pg⟩; omega, srt_putP SR.out, fun q hq => (mem_putP.1 hq).elim (fun e => e ▸ WP.out) (WQ.out q)⟩
    · obtain rfl : i = N := by omega
      have t4 : decide ((i : Int) < (i : Int)) = false := decide_eq_false (by omega)
      obtain ⟨A4, n4, c4, rfl, hn4, -⟩ := h6
      have HN4 := Lib.hid hn4
      have hn40 : n4 ≤ 40 := by have := LE.out; omega
      clear hn4
      go_wp2_with fail
      go_loopg [6, 7, 8] n4 (fun gg s6 _ _ wx => ∃ j : Nat, j + gg = n4 ∧ s6 = .int .i64 (j : Int) ∧ SwpT w wx gS (one0 (l.drop j)) Z ∧ (∀ k, Z k → k < wx.heap.size) ∧ Pls wx wx.heap.size (.slice A4 n4 c4) l)
      case atStart => exact ⟨0, by omega, rfl, S5.out, Z5.out, P5.out⟩
      case round =>
        obtain ⟨j, hjg, rfl, h5, hz, h6⟩ := hrel
        have S6 := Lib.hid h5
        have Z6 := Lib.hid hz
        have P6 := Lib.hid h6
        clear S5 Z5 P5 h5 hz
        by_cases hlt2 : j < n4
        · have u4 : decide ((j : Int) < (n4 : Int)) = true := decide_eq_true (by omega)
          have u5 : (j : Int) < (n4 : Int) := by omega
          have u6 : (0 : Int) ≤ (j : Int) := by omega
          have hjl : j < l.length := by rw [HN4.out]; exact hlt2
          obtain ⟨A', n', c', he, -, -, -, -, hce⟩ := h6
          injection he with e1 e2 e3
          subst e1 e2 e3
          obtain ⟨b2, o2, rfl, -, -⟩ := hce (by omega)
          clear hce
          obtain ⟨⟨pc, pg⟩, hp⟩ : ∃ p, p = l.getD j pl0 := ⟨_, rfl⟩
          have WP := Lib.hid (show WPl ⟨pc, pg⟩ from by rw [hp]; exact WQ.out _ (getD_memP hjl))
          have hdr : l.drop j = ⟨pc, pg⟩ :: l.drop (j + 1) := by rw [hp]; exact drop_cons_getD hjl
          have KK := Lib.hid (fun (W : World) (hW : Pls W W.heap.size (.slice (some ⟨b2, o2, none⟩) n4 c4) l) => (by
            obtain ⟨A', n', c', he, -, -, -, -, hce⟩ := hW
            injection he with e1 e2 e3
            subst e2 e3
            obtain ⟨b3, o3, e4, -, hc⟩ := hce (by omega)
            rw [← e1] at e4
            injection e4 with e4
            injection e4 with e5 e6
            subst e5 e6
            have := hc j hlt2
            rw [← hp] at this
            exact this : W.cell? ⟨b2, o2 + j * 2, none⟩ = some (.int .i64 pc) ∧ W.cell? ⟨b2, o2 + j * 2 + 1, none⟩ = some (.int .i64 pg)))
          have hnm : (⟨pc, pg⟩ : Pl) ∉ l.drop (j + 1) := by
            have hs : SrtP (l.drop j) := SR.out.sublist (List.drop_sublist _ _)
            rw [hdr] at hs
            exact fun hm => (List.pairwise_cons.1 hs).1 _ hm |>.ne rfl
          have HNM := Lib.hid hnm
          have h9 := S6.out
          rw [hdr] at h9
          have S7 := Lib.hid h9
          have CT := Lib.hid (sw_take h9 (one0_take (List.cons_ne_nil _ _)))
          rw [show takeV (some 1) = .tuple #[.int .i64 1, .bool true] from rfl] at CT
          clear h9 hnm hdr hp hjl S6
          go_wp2_with fail
          refine CT.out.mono ?_
          rintro e wa ⟨rfl, ha⟩
          have Sa := Lib.hid (S7.out.fresh ha)
          have Pa := Lib.hid (P6.out.fresh ha)
          have Za := Lib.hid (fun k hk => Nat.lt_of_lt_of_le (Z6.out k hk) ha.size)
          have CU := Lib.hid (sw_used Sa.out)
          rw [one0_used (List.cons_ne_nil _ _)] at CU
          clear ha
          go_wp2_with fail
          refine CU.out.mono ?_
          rintro e wb ⟨rfl, ha⟩
          have Sb := Lib.hid (Sa.out.fresh ha)
          have Pb := Lib.hid (Pa.out.fresh ha)
          have Zb := Lib.hid (fun k hk => Nat.lt_of_lt_of_le (Za.out k hk) ha.size)
          have CR := Lib.hid (sw_release Sb.out Zb.out 0 ⟨pc, pg⟩ WP.out)
          rw [one0_in, one0_rel, decide_eq_true List.mem_cons_self, List.erase_cons_head] at CR
          have k0 := (KK.out _ Pb.out).1
          have k1 := (KK.out _ Pb.out).2
          clear ha
          go_wp2_with fail
          refine CR.out.mono ?_
          rintro e wc ⟨rfl, q1, q2, -, q4⟩
          have Sc := Lib.hid q1
          have Pc := Lib.hid (Pb.out.keepZ I5.out q2 q4)
          have Zc := Lib.hid (fun k hk => Nat.lt_of_lt_of_le (Zb.out k hk) q4)
          have CQ := Lib.hid (sw_release Sc.out Zc.out 0 ⟨pc, pg⟩ WP.out)
          rw [one0_in, one0_rel, decide_eq_false HNM.out, List.erase_of_not_mem HNM.out] at CQ
          clear k0 k1 q1 q2 q4
          have k0 := (KK.out _ Pc.out).1
          have k1 := (KK.out _ Pc.out).2
          go_wp2_with fail
          refine CQ.out.mono ?_
          rintro e wd ⟨rfl, q1, q2, -, q4⟩
          have Sd := Lib.hid q1
          have Pd := Lib.hid (Pc.out.keepZ I5.out q2 q4)
          have Zd := Lib.hid (fun k hk => Nat.lt_of_lt_of_le (Zc.out k hk) q4)
          clear k0 k1 q1 q2 q4
          go_wp2_with fail
          go_roundg (n4 - (j + 1))
          case measure => omega
          case rel => exact ⟨j + 1, by omega, by go_num, Sd.out, Zd.out, Pd.out⟩
        · obtain rfl : j = n4 := by omega
          have u4 : decide ((j : Int) < (j : Int)) = false := decide_eq_false (by omega)
          have h9 := S6.out
          rw [List.drop_of_length_le (by rw [HN4.out]; exact Nat.le_refl _)] at h9
          have S7 := Lib.hid h9
          have CT := Lib.hid (sw_take h9 one0_take0)
          rw [show takeV (some 0) = .tuple #[.int .i64 0, .bool true] from rfl] at CT
          clear h9 h6
          go_wp2_with fail
          refine CT.out.mono ?_
          rintro e wa ⟨rfl, ha⟩
          have Sa := Lib.hid (S7.out.fresh ha)
          clear ha
          go_wp2_with fail
          refine (swpAnswers_any _).mono ?_
          rintro e wb ⟨rfl, ha⟩
          have Sb := Lib.hid (Sa.out.fresh ha)
          have CU := Lib.hid (sw_used Sb.out)
          rw [one0_used0] at CU
          clear ha
          go_wp2_with fail
          refine CU.out.mono ?_
          rintro e wc ⟨rfl, ha⟩
          have Sc := Lib.hid (Sb.out.fresh ha)
          clear ha
          go_wp2
          go_ret
          exact ⟨rfl, Sc.out.bel⟩
end Go.Proofs.Ythfcmfhmaokioaa
