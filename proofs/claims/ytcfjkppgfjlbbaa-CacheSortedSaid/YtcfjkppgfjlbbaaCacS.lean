/-
  CacheSorted answers true.
  Conditions: the keys are read in memory, and their numbers are an int's.
-/
import Derived.Test.YtcfjkppgfjlbbaaCacA
import Derived.Deep.LoopGhost
namespace Go.Proofs.Ytcfjkppgfjlbbaa
open Go.RowKit
set_option linter.unusedVariables false

set_option maxRecDepth 20000
set_option maxHeartbeats 1600000
theorem less15_any (a b : Pl) (w : World) :
    Calls Try.prog 16 #[.agg #[.int .i64 a.c, .int .i64 a.g], .agg #[.int .i64 b.c, .int .i64 b.g]] w fun e w' => e = .returned (.bool (decide (ltP a b))) ∧ Below w.heap.size w w' := by
  obtain ⟨a1, a2⟩ := a
  obtain ⟨b1, b2⟩ := b
  have HB := Lib.hid (belAl (belAl (Below.refl w.heap.size w) (.cells #[Value.int .i64 a1, Value.int .i64 a2] 30)) (.cells #[Value.int .i64 b1, Value.int .i64 b2] 30))
  have r : decide (ltP ⟨a1, a2⟩ ⟨b1, b2⟩) = (decide (a1 < b1) || (decide (a1 = b1) && decide (a2 < b2))) := by rw [Bool.eq_iff_iff, decide_eq_true_iff]; unfold ltP; simp
  rw [r]
  clear r
  by_cases c1 : a1 < b1
  · have d1 : decide (a1 < b1) = true := decide_eq_true c1
    rw [d1]
    go_enter Try.func16, Try.ntmps16
    go_wp2
    go_ret
    exact ⟨rfl, HB.out⟩
  · have d1 : decide (a1 < b1) = false := decide_eq_false c1
    rw [d1]
    by_cases c2 : a1 = b1
    · subst c2
      by_cases c3 : a2 < b2
      · have d3 : decide (a2 < b2) = true := decide_eq_true c3
        rw [d3]
        go_enter Try.func16, Try.ntmps16
        go_wp2
        go_ret
        exact ⟨by simp, HB.out⟩
      · have d3 : decide (a2 < b2) = false := decide_eq_false c3
        rw [d3]
        go_enter Try.func16, Try.ntmps16
        go_wp2
        go_ret
        exact ⟨by simp, HB.out⟩
    · have d2 : (a1 == b1) = false := by simp [c2]
      have r : decide (a1 = b1) = false := decide_eq_false c2
      rw [r]
      go_enter Try.func16, Try.ntmps16
      go_wp2
      go_ret
      exact ⟨rfl, HB.out⟩
/-- All frames are below. -/
def FrB (es : CS) (i : Nat) : Prop := ∀ e ∈ es, e.f < (i : Int)
theorem FrB.busy {es : CS} {i : Nat} (h : FrB es i) : busyC es (i : Int) = false := by
  cases c : busyC es (i : Int) with
  | false => rfl
  | true => obtain ⟨e, he, e1⟩ := busyC_iff.1 c; have := h e he; omega
theorem FrB.put {es : CS} {i : Nat} (h : FrB es i) (k : Pl) : FrB (putC es k (i : Int)) (i + 1) := by
  unfold putC
  split
  · intro e he
    rcases List.mem_append.1 he with he | he
    · have := h e he; omega
    · rw [List.mem_singleton.1 he]; show (i : Int) < _; omega
  · intro e he
    have := h e he; omega
theorem cacheSorted_edge (A : Option Addr) (l c : Nat) (w : World) (h : 60 < l) :
    Calls Try.prog 6 #[.slice A l c] w fun e w' => e = .returned (.bool true) ∧ Below w.heap.size w w' := by
  have t1 : decide ((60 : Int) < (l : Int)) = true := decide_eq_true (by omega)
  clear h
  go_enter Try.func6, Try.ntmps6
  go_wp2_with fail
  refine (cacAnswers_any _).mono ?_
  rintro e w1 ⟨rfl, hb⟩
  go_wp2
  go_ret
  exact ⟨rfl, hb⟩
theorem cacheSorted_any (v0 : Value) (ps : List Pl) (w : World) (h0 : Pls w w.heap.size v0 ps) (hl : ps.length ≤ 60) (hw : ∀ p ∈ ps, WPlc p) :
    Calls Try.prog 6 #[v0] w fun e w' => e = .returned (.bool true) ∧ Below w.heap.size w w' := by
  obtain ⟨A, N, c, rfl, hN, h1, h2, h3, h4⟩ := h0
  have HZ := Lib.hid h4
  have HN := Lib.hid hN
  have HW := Lib.hid hw
  have WM := Lib.hid (show W64c (-1) from by decide)
  have hN60 : N ≤ 60 := by omega
  have t1 : decide ((60 : Int) < (N : Int)) = false := decide_eq_false (by omega)
  clear hN h1 h2 h3 h4 hl hw
  go_enter Try.func6, Try.ntmps6
  go_wp2_with fail
  refine (ca_new w w (Below.refl _ _) (fun _ => False) (noZc w)).mono ?_
  rintro e w1 ⟨gC, rfl, h1, -⟩
  have S1 := Lib.hid h1
  clear h1
  go_wp2_with fail
  go_loopg [4, 5] N (fun gg s4 s5 wx => ∃ (i : Nat) (es : CS), i + gg = N ∧ s5 = .int .i64 (i : Int) ∧ s4 = .int .i64 ((es.length : Nat) : Int) ∧ CacT w wx gC es (fun _ => False) ∧ FrB es i ∧ es.length ≤ i)
  case atStart => exact ⟨0, [], by omega, rfl, rfl, S1.out, fun e he => (by cases he), Nat.le_refl _⟩
  case round =>
    obtain ⟨i, es, hig, rfl, hs4, h5, hfr, hle⟩ := hrel
    obtain ⟨n, hn⟩ : ∃ n, n = es.length := ⟨_, rfl⟩
    rw [← hn] at hs4 hle
    subst hs4
    have HNE := Lib.hid hn
    have S5 := Lib.hid h5
    have F5 := Lib.hid hfr
    clear h5 hfr
    by_cases hlt : i < N
    · have t4 : decide ((i : Int) < (N : Int)) = true := decide_eq_true (by omega)
      have t5 : (i : Int) < (N : Int) := by omega
      have t6 : (0 : Int) ≤ (i : Int) := by omega
      obtain ⟨b1, o1, rfl, hbl, hcc⟩ := HZ.out (by omega)
      obtain ⟨kk, hkk⟩ : ∃ kk, kk = ps.getD i pl0 := ⟨_, rfl⟩
      have hkm : kk ∈ ps := by
        rw [hkk, List.getD_eq_getElem?_getD, List.getElem?_eq_getElem (by rw [HN.out]; exact hlt)]
        exact List.getElem_mem _
      have WK := Lib.hid (HW.out kk hkm)
      obtain ⟨c0, c1⟩ := hcc i hlt
      rw [← hkk] at c0 c1
      have d0 : wr.cell? ⟨b1, o1 + i * 2, none⟩ = some (.int .i64 kk.c) := (S5.out.bel.cell hbl).trans c0
      have d1 : wr.cell? ⟨b1, o1 + i * 2 + 1, none⟩ = some (.int .i64 kk.g) := (S5.out.bel.cell hbl).trans c1
      have PT := Lib.hid (ca_put S5.out (noZc wr) kk (i : Int) WK.out (by exact WalkArith.wf_i64 (by omega)) (by rw [← hn]; omega))
      have FP := Lib.hid (F5.out.put kk)
      clear c0 c1 hcc hkk hkm hn
      cases hh : hasC es kk with
      | true =>
        have e1 : freeC es kk (i : Int) = false := by unfold freeC; rw [hh]; rfl
        have e2 : putC es kk (i : Int) = es := by unfold putC; rw [e1]; rfl
        rw [e1, e2] at PT
        rw [e2] at FP
        clear e1 e2 hh
        go_wp2_with fail
        refine PT.out.mono ?_
        rintro e w2 ⟨rfl, h2, -, -, -⟩
        have S2 := Lib.hid h2
        clear h2
        go_wp2_with fail
        go_roundg (N - (i + 1))
        case measure => omega
        case rel => exact ⟨i + 1, es, by omega, by go_num, by rw [HNE.out], S2.out, FP.out, by rw [← HNE.out]; omega⟩
      | false =>
        have e1 : freeC es kk (i : Int) = true := by unfold freeC; rw [hh, F5.out.busy]; rfl
        have e2 : putC es kk (i : Int) = es ++ [⟨kk, (i : Int), false⟩] := by unfold putC; rw [e1]; rfl
        rw [e1, e2] at PT
        rw [e2] at FP
        clear e1 e2 hh
        go_wp2_with fail
        refine PT.out.mono ?_
        rintro e w2 ⟨rfl, h2, -, -, -⟩
        have S2 := Lib.hid h2
        clear h2
        go_wp2_with fail
        go_roundg (N - (i + 1))
        case measure => omega
        case rel =>
          have e3 : (es ++ [(⟨kk, (i : Int), false⟩ : Ce)]).length = n + 1 := by rw [List.length_append, ← HNE.out]; rfl
          exact ⟨i + 1, _, by omega, by go_num, by rw [e3]; go_num, S2.out, FP.out, by rw [e3]; omega⟩
    · obtain rfl : i = N := by omega
      have t4 : decide ((i : Int) < (i : Int)) = false := decide_eq_false (by omega)
      have KY := Lib.hid (ca_keys S5.out (-1) WM.out)
      clear hn
      go_wp2_with fail
      refine KY.out.mono ?_
      rintro e w3 ⟨v, l, rfl, hp, hk, hb⟩
      have S3 := Lib.hid (S5.out.fresh hb)
      have LL := Lib.hid (keysC_length S5.out.ok hk)
      obtain ⟨A3, m, c3, rfl, hm, -, -, -, hz3⟩ := hp
      have hln : m = n := by
        rw [← hm, LL.out, List.filter_eq_self.2 (fun x _ => decide_eq_true (Or.inl (by omega))), List.length_map, HNE.out]
      subst hln
      have HK := Lib.hid hk
      have HM := Lib.hid hm
      have HZ3 := Lib.hid hz3
      have hm60 : m ≤ 60 := by omega
      clear hk hm hz3 hb HZ
      have HB3 := Lib.hid S3.out.bel
      go_wp2_with fail
      go_loopg [7] (m + 1) (fun gg s7 wx => ∃ j : Nat, j + gg = m + 2 ∧ 1 ≤ j ∧ s7 = .int .i64 (j : Int) ∧ Below w3.heap.size w3 wx)
      case atStart => exact ⟨1, by omega, Nat.le_refl _, rfl, Below.refl _ _⟩
      case round =>
        obtain ⟨j, hjg, hj1, rfl, hbx⟩ := hrel
        have HBX := Lib.hid hbx
        clear hbx
        by_cases hlt2 : j < m
        · have u4 : decide ((j : Int) < (m : Int)) = true := decide_eq_true (by omega)
          have u5 : (j : Int) < (m : Int) := by omega
          have u6 : (0 : Int) ≤ (j : Int) := by omega
          obtain ⟨b1, o1, rfl, hbl, hcc⟩ := HZ3.out (by omega)
          obtain ⟨q, hq⟩ : ∃ q, q = j - 1 := ⟨_, rfl⟩
          have hqm : q < m := by omega
          have q1 : IntKind.i64.wrap ((j : Int) - 1) = (q : Int) := by rw [IntKind.wrap_i64]; omega
          have q2 : (q : Int) < (m : Int) := by omega
          have q3 : (0 : Int) ≤ (q : Int) := by omega
          obtain ⟨ka, hka⟩ : ∃ ka, ka = l.getD q pl0 := ⟨_, rfl⟩
          obtain ⟨kb, hkb⟩ : ∃ kb, kb = l.getD j pl0 := ⟨_, rfl⟩
          have hlt3 : ltP ka kb := by
            have h := HK.out.1
            have h := List.pairwise_iff_getElem.1 h
            have := h q j (by rw [HM.out]; exact hqm) (by rw [HM.out]; exact hlt2) (by omega)
            rw [hka, hkb]
            simpa [HM.out, hqm, hlt2] using this
          have KP := Lib.hid (fun (W : World) (hW : Below wr.heap.size wr W) => (show (W.cell? ⟨b1, o1 + q * 2, none⟩ = some (.int .i64 ka.c) ∧ W.cell? ⟨b1, o1 + q * 2 + 1, none⟩ = some (.int .i64 ka.g) ∧ W.cell? ⟨b1, o1 + j * 2, none⟩ = some (.int .i64 kb.c) ∧ W.cell? ⟨b1, o1 + j * 2 + 1, none⟩ = some (.int .i64 kb.g)) ∧ Below wr.heap.size wr W from by
            have hB := HBX.out.trans (hW.mono HBX.out.size)
            obtain ⟨a0, a1⟩ := hcc q hqm
            obtain ⟨a2, a3⟩ := hcc j hlt2
            rw [← hka] at a0 a1
            rw [← hkb] at a2 a3
            exact ⟨⟨(hB.cell hbl).trans a0, (hB.cell hbl).trans a1, (hB.cell hbl).trans a2, (hB.cell hbl).trans a3⟩, hW⟩))
          have LS := Lib.hid (fun (W : World) (hW : Below wr.heap.size wr W) => ((less15_any ka kb W).mono (fun e w' h => ⟨by rw [h.1, decide_eq_true hlt3], hW.trans (h.2.mono hW.size)⟩) : Calls Try.prog 16 #[.agg #[.int .i64 ka.c, .int .i64 ka.g], .agg #[.int .i64 kb.c, .int .i64 kb.g]] W fun e w' => e = .returned (.bool true) ∧ Below wr.heap.size wr w'))
          have BR := Lib.hid (Below.refl wr.heap.size wr)
          clear hcc hka hkb hlt3 hq hbl
          go_wp2_with fail
          go_region_held3 (fun w' => (w'.cell? ⟨b1, o1 + q * 2, none⟩ = some (.int .i64 ka.c) ∧ w'.cell? ⟨b1, o1 + q * 2 + 1, none⟩ = some (.int .i64 ka.g) ∧ w'.cell? ⟨b1, o1 + j * 2, none⟩ = some (.int .i64 kb.c) ∧ w'.cell? ⟨b1, o1 + j * 2 + 1, none⟩ = some (.int .i64 kb.g)) ∧ Below wr.heap.size wr w')
            (first | assumption | exact KP.out _ BR.out.drew | exact KP.out _ (by assumption))
            ((go_at_call 16; refine (LS.out _ ?_).mono ?_; (first | assumption | exact (And.right (by assumption))); rintro e w' ⟨rfl, hls⟩))
          have HB4 := Lib.hid (HBX.out.trans (hls.mono HBX.out.size))
          clear hls
          go_wp2_with fail
          go_roundg (m + 2 - (j + 1))
          case measure => omega
          case rel => exact ⟨j + 1, by omega, by omega, by go_num, HB4.out⟩
        · have u4 : decide ((j : Int) < (m : Int)) = false := decide_eq_false (by omega)
          have S6 := Lib.hid (S3.out.fresh HBX.out)
          go_wp2_with fail
          refine (cacAnswers_any _).mono ?_
          rintro e w7 ⟨rfl, hb7⟩
          have S7 := Lib.hid (S6.out.fresh hb7)
          clear hb7
          go_wp2
          go_ret
          exact ⟨by simp, S7.out.bel⟩
end Go.Proofs.Ytcfjkppgfjlbbaa
