/-
  PoolRuns answers true for any number and bytes.
  Conditions: the bytes are read in memory.
-/
import Derived.Test.YtkpjimpjopbdkaaPooR
namespace Go.Proofs.Ytkpjimpjopbdkaa
open Go.RowKit
set_option linter.unusedVariables false
attribute [local irreducible] ps0 badU spanU

theorem countP_le (p : PS) (s v : Int) : countP p s v ≤ 32 := by
  unfold countP
  split
  · exact cntU_le _ _ _ _
  · omega
theorem poolRuns_edge (n : Nat) (A : Option Addr) (l c : Nat) (w : World) (h : 40 < l) :
    Calls Try.prog 8 #[.int .u8 (n : Int), .slice A l c] w fun e w' => e = .returned (.bool true) ∧ Below w.heap.size w w' := by
  have t1 : decide ((40 : Int) < (l : Int)) = true := decide_eq_true (by omega)
  go_enter Try.func8, Try.ntmps8
  go_wp2_with fail
  refine (poolAnswers_any _).mono ?_
  rintro e w1 ⟨rfl, hb⟩
  go_wp2
  go_ret
  exact ⟨rfl, hb⟩
set_option maxRecDepth 20000 in
set_option maxHeartbeats 3200000 in
theorem poolRuns_0 (n : Nat) (v : Value) (xs : List Nat) (w : World) (hn : n % 6 = 0) (h1 : Bts w w.heap.size v xs) (hl1 : xs.length ≤ 40) :
    Calls Try.prog 8 #[.int .u8 (n : Int), v] w fun e w' => e = .returned (.bool true) ∧ Below w.heap.size w w' := by
  obtain ⟨A1, N1, c1, rfl, hN1, _, _, _, hby, hz1⟩ := h1
  have HZ1 := Lib.hid hz1
  have HBY := Lib.hid hby
  have HN1 := Lib.hid hN1
  have t1 : decide ((40 : Int) < (N1 : Int)) = false := decide_eq_false (by omega)
  have hN40 : N1 ≤ 40 := by omega
  have r2 : (n : Int).tmod 6 = 0 := by rw [Int.tmod_eq_emod_of_nonneg (by omega)]; omega
  have r2' : (n : Int) % 6 = 0 := by omega
  clear hl1 hN1 hz1 hby hn
  go_enter Try.func8, Try.ntmps8
  go_wp2_with fail
  refine (st_new (w0 := w) (Q := Is0) is0_new w (Below.refl _ _)).mono ?_
  rintro e w1 ⟨gS, rfl, h1⟩
  have H1 := Lib.hid h1
  clear h1
  go_wp2_with fail
  refine (st_online (R := IsR) 0 2 2 H1.out (fun p hp => by
    obtain ⟨⟨er, p'⟩, h⟩ : ∃ r, onP p 2 2 [] = r := ⟨_, rfl⟩
    obtain ⟨rfl, h2⟩ := hp.on (s := 2) (z := 2) (by omega) (.inl rfl) h
    exact ⟨p', h, h2.rr⟩)).mono ?_
  rintro e w2 ⟨rfl, h2⟩
  have H2 := Lib.hid h2
  clear h2
  go_wp2_with fail
  go_loopg [6] N1 (fun gg s6 wx => ∃ i : Nat, i + gg = N1 ∧ s6 = .int .i64 (i : Int) ∧ St w wx gS IsR)
  case atStart => exact ⟨0, by omega, rfl, H2.out⟩
  case round =>
    obtain ⟨i, hig, rfl, h3⟩ := hrel
    have H3 := Lib.hid h3
    clear h3
    by_cases hlt : i < N1
    · have t2 : decide ((i : Int) < (N1 : Int)) = true := decide_eq_true (by omega)
      obtain ⟨b, off, rfl, hbB, hc⟩ := HZ1.out (by omega)
      obtain ⟨y, hy⟩ : ∃ y, y = xs.getD i 0 := ⟨_, rfl⟩
      have hcell : wr.cell? ⟨b, off + i, none⟩ = some (.int .u8 (y : Int)) := by
        rw [hy, H3.out.bel.cell (p := ⟨b, off + i, none⟩) hbB]
        exact hc i hlt
      have hy256 : y < 256 := by rw [hy]; exact HBY.out i hlt
      obtain ⟨j, hj⟩ : ∃ j, j = y % 32 := ⟨_, rfl⟩
      obtain ⟨f0, hf0⟩ : ∃ f0, f0 = 64 + j := ⟨_, rfl⟩
      have r3 : (y : Int).tmod 32 = (j : Int) := by rw [Int.tmod_eq_emod_of_nonneg (by omega)]; omega
      have r3' : (y : Int) % 32 = (j : Int) := by omega
      have r4 : (64 : Int) + (j : Int) = (f0 : Int) := by omega
      have hj32 : j < 32 := by omega
      have HF0 := Lib.hid (show 64 ≤ f0 ∧ f0 < 96 from by omega)
      have q1 : (0 : Int) ≤ (i : Int) := by omega
      have q2 : (i : Int) < (N1 : Int) := by omega
      clear hy hj hf0 hc
      go_wp2_with fail
      refine (st_spoil (V := fun _ p => IsR p) (f0 : Int) H3.out (fun p hp => hp.spoil HF0.out.1 HF0.out.2)).mono ?_
      rintro e w4 ⟨bb, rfl, h4⟩
      have H4 := Lib.hid h4
      clear h4
      go_wp2_with fail
      go_roundg (N1 - (i + 1))
      case measure => omega
      case rel => exact ⟨i + 1, by omega, by go_num, H4.out⟩
    · obtain rfl : i = N1 := by omega
      have t2 : decide ((i : Int) < (i : Int)) = false := decide_eq_false (by omega)
      go_wp2_with fail
      refine (st_count (V := fun y p => IsR p ∧ y = countP p 2 1) 2 1 H3.out (fun p hp => ⟨hp, rfl⟩)).mono ?_
      rintro e w4 ⟨c0, rfl, h4⟩
      have H4 := Lib.hid h4
      clear h4
      go_wp2_with fail
      refine (st_alloc (V := fun f er p => (er = 4 ∧ c0 = countP p 2 1) ∨ (er = 0 ∧ f % 1 = 0 ∧ 64 ≤ f ∧ f + 1 ≤ 96 ∧ ∃ q, IsT p q f (f + 1) ∧ (∀ k, f ≤ k → k < f + 1 → q.u.getD k 0 = 1) ∧ c0 = countP q 2 1)) 5 0 false H4.out (fun p f er p' hp ha => by
        rcases hp.1.alloc (o := 0) (by omega) ha with ⟨a1, a2⟩ | ⟨a1, a2, a3, a4, a5, a6⟩
        · exact .inl ⟨a1, by rw [a2]; exact hp.2⟩
        · exact .inr ⟨a1, a2, a3, a4, p, a5, a6, hp.2⟩)).mono ?_
      rintro e w5 ⟨f, er, rfl, K5, p5, hm5, hv, hk5, hb5⟩
      have HM5 := Lib.hid hm5
      have HK5 := Lib.hid hk5
      have HB5 := Lib.hid hb5
      rcases hv with ⟨rfl, hc⟩ | ⟨rfl, e1, e2, e3, q, hT, hO, hc⟩
      · have H5 := Lib.hid (show St w w5 gS (fun p => c0 = countP p 2 1) from ⟨K5, p5, HM5.out, hc, HK5.out, HB5.out⟩)
        clear hm5 hk5 hb5 hc
        go_wp2_with fail
        refine (poolAnswers_any w5).mono ?_
        rintro e w6 ⟨rfl, hb6⟩
        have H6 := Lib.hid (H5.out.fresh hb6)
        clear hb6
        go_wp2_with fail
        refine (st_count (V := fun y p => y = c0 ∧ True) 2 1 H6.out (fun p hp => ⟨hp.symm, trivial⟩)).mono ?_
        rintro e w7 ⟨y, rfl, h7⟩
        obtain ⟨rfl, h8⟩ := h7.and_
        have H8 := Lib.hid h8
        clear h7 h8
        go_wp2
        go_ret
        exact ⟨by simp, H8.out.bel⟩
      · have HO := Lib.hid hO
        have HC := Lib.hid hc
        have HFB := Lib.hid (show f % 1 = 0 ∧ 64 ≤ f ∧ f + 1 ≤ 96 from ⟨e1, e2, e3⟩)
        have H5 := Lib.hid (show St w w5 gS (fun p => IsT p q f (f + 1)) from ⟨K5, p5, HM5.out, hT, HK5.out, HB5.out⟩)
        obtain ⟨c9, hc9⟩ : ∃ c9, c9 = countP p5 2 1 := ⟨_, rfl⟩
        have hcs : c9 + 1 = c0 := by
          have := hT.count hO (by omega) (by omega) (by omega)
          omega
        have hc32 : c0 ≤ 32 := by rw [hc]; exact countP_le _ _ _
        have hc9l : c9 ≤ 32 := by omega
        have HQ := Lib.hid (show c9 + 1 = countP q 2 1 from by rw [← hc]; exact hcs)
        have r5 : (f : Int).tmod 1 = 0 := by rw [Int.tmod_eq_emod_of_nonneg (by omega)]; omega
        have r5' : (f : Int) % 1 = 0 := by omega
        have r6 : (c0 : Int) - 1 = (c9 : Int) := by omega
        have d1 : decide ((f : Int) < 64) = false := decide_eq_false (by omega)
        have d2 : decide (96 < (f : Int) + 1) = false := decide_eq_false (by omega)
        clear hm5 hk5 hb5 hc hT hO e1 e2 hc9 hcs
        go_wp2_with fail
        refine (st_count (V := fun y p => y = c9 ∧ IsT p q f (f + 1)) 2 1 H5.out (fun p hp => ⟨by
          have e1 := hp.count HO.out (by have := HFB.out; omega) (by omega) (by have := HFB.out; omega)
          have e2 := HQ.out
          omega, hp⟩)).mono ?_
        rintro e w6 ⟨y, rfl, h6⟩
        obtain ⟨rfl, h7⟩ := h6.and_
        have H7 := Lib.hid h7
        clear h6 h7
        go_wp2_with fail
        clear d1 d2 r5 r5' r6
        go_loopg [12] 1 (fun gg s12 wx => ∃ k : Nat, k + gg = f + 1 ∧ f ≤ k ∧ s12 = .int .i64 (k : Int) ∧ St w wx gS (fun p => IsT p q k (f + 1)))
        case atStart => exact ⟨f, rfl, Nat.le_refl _, rfl, H7.out⟩
        case round =>
          obtain ⟨k, hkg, hfk, rfl, h8⟩ := hrel
          have H8 := Lib.hid h8
          clear h8
          by_cases hlt2 : k < f + 1
          · have t3 : decide ((k : Int) < (f : Int) + 1) = true := decide_eq_true (by omega)
            go_wp2_with fail
            refine (st_use (V := fun y p => y = 5 ∧ IsT p q k (f + 1)) (k : Int) H8.out (fun p hp => ⟨hp.use hlt2 (by omega), hp⟩)).mono ?_
            rintro e w9 ⟨y, rfl, h9⟩
            obtain ⟨rfl, h10⟩ := h9.and_
            have H10 := Lib.hid h10
            clear h9 h10
            go_wp2_with fail
            refine (st_free (V := fun b p => b = true ∧ IsT p q (k + 1) (f + 1)) (k : Int) H10.out (fun p hp => hp.free_ (fun x x1 x2 => HO.out x (by omega) x2) hlt2 (by omega))).mono ?_
            rintro e w11 ⟨b, rfl, h11⟩
            obtain ⟨rfl, h12⟩ := h11.and_
            have H12 := Lib.hid h12
            clear h11 h12
            go_wp2_with fail
            refine (st_free (V := fun b p => b = false ∧ IsT p q (k + 1) (f + 1)) (k : Int) H12.out (fun p hp => by
              rw [hp.again (HO.out k hfk hlt2) (by omega)]
              exact ⟨rfl, hp⟩)).mono ?_
            rintro e w13 ⟨b, rfl, h13⟩
            obtain ⟨rfl, h14⟩ := h13.and_
            have H14 := Lib.hid h14
            clear h13 h14
            go_wp2_with fail
            go_roundg (f + 1 - (k + 1))
            case measure => omega
            case rel => exact ⟨k + 1, by omega, by omega, by go_num, H14.out⟩
          · obtain rfl : k = f + 1 := by omega
            have t3 : decide (((f + 1 : Nat) : Int) < (f : Int) + 1) = false := decide_eq_false (by omega)
            go_wp2_with fail
            refine (poolAnswers_any wr).mono ?_
            rintro e w11 ⟨rfl, hb11⟩
            have H11 := Lib.hid (H8.out.fresh hb11)
            clear hb11
            go_wp2_with fail
            refine (st_count (V := fun y p => y = c0 ∧ True) 2 1 H11.out (fun p hp => ⟨by
              have e1 := hp.count (fun x x1 x2 => absurd x2 (by omega)) (by have := HFB.out; omega) (Nat.le_refl _) (by have := HFB.out; omega)
              have e2 := HC.out
              omega, trivial⟩)).mono ?_
            rintro e w12 ⟨y, rfl, h12⟩
            obtain ⟨rfl, h13⟩ := h12.and_
            have H13 := Lib.hid h13
            clear h12 h13
            go_wp2
            go_ret
            exact ⟨by simp, H13.out.bel⟩
set_option maxRecDepth 20000 in
set_option maxHeartbeats 3200000 in
theorem poolRuns_1 (n : Nat) (v : Value) (xs : List Nat) (w : World) (hn : n % 6 = 1) (h1 : Bts w w.heap.size v xs) (hl1 : xs.length ≤ 40) :
    Calls Try.prog 8 #[.int .u8 (n : Int), v] w fun e w' => e = .returned (.bool true) ∧ Below w.heap.size w w' := by
  obtain ⟨A1, N1, c1, rfl, hN1, _, _, _, hby, hz1⟩ := h1
  have HZ1 := Lib.hid hz1
  have HBY := Lib.hid hby
  have HN1 := Lib.hid hN1
  have t1 : decide ((40 : Int) < (N1 : Int)) = false := decide_eq_false (by omega)
  have hN40 : N1 ≤ 40 := by omega
  have r2 : (n : Int).tmod 6 = 1 := by rw [Int.tmod_eq_emod_of_nonneg (by omega)]; omega
  have r2' : (n : Int) % 6 = 1 := by omega
  clear hl1 hN1 hz1 hby hn
  go_enter Try.func8, Try.ntmps8
  go_wp2_with fail
  refine (st_new (w0 := w) (Q := Is0) is0_new w (Below.refl _ _)).mono ?_
  rintro e w1 ⟨gS, rfl, h1⟩
  have H1 := Lib.hid h1
  clear h1
  go_wp2_with fail
  refine (st_online (R := IsR) 0 2 2 H1.out (fun p hp => by
    obtain ⟨⟨er, p'⟩, h⟩ : ∃ r, onP p 2 2 [] = r := ⟨_, rfl⟩
    obtain ⟨rfl, h2⟩ := hp.on (s := 2) (z := 2) (by omega) (.inl rfl) h
    exact ⟨p', h, h2.rr⟩)).mono ?_
  rintro e w2 ⟨rfl, h2⟩
  have H2 := Lib.hid h2
  clear h2
  go_wp2_with fail
  go_loopg [6] N1 (fun gg s6 wx => ∃ i : Nat, i + gg = N1 ∧ s6 = .int .i64 (i : Int) ∧ St w wx gS IsR)
  case atStart => exact ⟨0, by omega, rfl, H2.out⟩
  case round =>
    obtain ⟨i, hig, rfl, h3⟩ := hrel
    have H3 := Lib.hid h3
    clear h3
    by_cases hlt : i < N1
    · have t2 : decide ((i : Int) < (N1 : Int)) = true := decide_eq_true (by omega)
      obtain ⟨b, off, rfl, hbB, hc⟩ := HZ1.out (by omega)
      obtain ⟨y, hy⟩ : ∃ y, y = xs.getD i 0 := ⟨_, rfl⟩
      have hcell : wr.cell? ⟨b, off + i, none⟩ = some (.int .u8 (y : Int)) := by
        rw [hy, H3.out.bel.cell (p := ⟨b, off + i, none⟩) hbB]
        exact hc i hlt
      have hy256 : y < 256 := by rw [hy]; exact HBY.out i hlt
      obtain ⟨j, hj⟩ : ∃ j, j = y % 32 := ⟨_, rfl⟩
      obtain ⟨f0, hf0⟩ : ∃ f0, f0 = 64 + j := ⟨_, rfl⟩
      have r3 : (y : Int).tmod 32 = (j : Int) := by rw [Int.tmod_eq_emod_of_nonneg (by omega)]; omega
      have r3' : (y : Int) % 32 = (j : Int) := by omega
      have r4 : (64 : Int) + (j : Int) = (f0 : Int) := by omega
      have hj32 : j < 32 := by omega
      have HF0 := Lib.hid (show 64 ≤ f0 ∧ f0 < 96 from by omega)
      have q1 : (0 : Int) ≤ (i : Int) := by omega
      have q2 : (i : Int) < (N1 : Int) := by omega
      clear hy hj hf0 hc
      go_wp2_with fail
      refine (st_spoil (V := fun _ p => IsR p) (f0 : Int) H3.out (fun p hp => hp.spoil HF0.out.1 HF0.out.2)).mono ?_
      rintro e w4 ⟨bb, rfl, h4⟩
      have H4 := Lib.hid h4
      clear h4
      go_wp2_with fail
      go_roundg (N1 - (i + 1))
      case measure => omega
      case rel => exact ⟨i + 1, by omega, by go_num, H4.out⟩
    · obtain rfl : i = N1 := by omega
      have t2 : decide ((i : Int) < (i : Int)) = false := decide_eq_false (by omega)
      go_wp2_with fail
      refine (st_count (V := fun y p => IsR p ∧ y = countP p 2 1) 2 1 H3.out (fun p hp => ⟨hp, rfl⟩)).mono ?_
      rintro e w4 ⟨c0, rfl, h4⟩
      have H4 := Lib.hid h4
      clear h4
      go_wp2_with fail
      refine (st_alloc (V := fun f er p => (er = 4 ∧ c0 = countP p 2 1) ∨ (er = 0 ∧ f % 2 = 0 ∧ 64 ≤ f ∧ f + 2 ≤ 96 ∧ ∃ q, IsT p q f (f + 2) ∧ (∀ k, f ≤ k → k < f + 2 → q.u.getD k 0 = 1) ∧ c0 = countP q 2 1)) 5 1 false H4.out (fun p f er p' hp ha => by
        rcases hp.1.alloc (o := 1) (by omega) ha with ⟨a1, a2⟩ | ⟨a1, a2, a3, a4, a5, a6⟩
        · exact .inl ⟨a1, by rw [a2]; exact hp.2⟩
        · exact .inr ⟨a1, a2, a3, a4, p, a5, a6, hp.2⟩)).mono ?_
      rintro e w5 ⟨f, er, rfl, K5, p5, hm5, hv, hk5, hb5⟩
      have HM5 := Lib.hid hm5
      have HK5 := Lib.hid hk5
      have HB5 := Lib.hid hb5
      rcases hv with ⟨rfl, hc⟩ | ⟨rfl, e1, e2, e3, q, hT, hO, hc⟩
      · have H5 := Lib.hid (show St w w5 gS (fun p => c0 = countP p 2 1) from ⟨K5, p5, HM5.out, hc, HK5.out, HB5.out⟩)
        clear hm5 hk5 hb5 hc
        go_wp2_with fail
        refine (poolAnswers_any w5).mono ?_
        rintro e w6 ⟨rfl, hb6⟩
        have H6 := Lib.hid (H5.out.fresh hb6)
        clear hb6
        go_wp2_with fail
        refine (st_count (V := fun y p => y = c0 ∧ True) 2 1 H6.out (fun p hp => ⟨hp.symm, trivial⟩)).mono ?_
        rintro e w7 ⟨y, rfl, h7⟩
        obtain ⟨rfl, h8⟩ := h7.and_
        have H8 := Lib.hid h8
        clear h7 h8
        go_wp2
        go_ret
        exact ⟨by simp, H8.out.bel⟩
      · have HO := Lib.hid hO
        have HC := Lib.hid hc
        have HFB := Lib.hid (show f % 2 = 0 ∧ 64 ≤ f ∧ f + 2 ≤ 96 from ⟨e1, e2, e3⟩)
        have H5 := Lib.hid (show St w w5 gS (fun p => IsT p q f (f + 2)) from ⟨K5, p5, HM5.out, hT, HK5.out, HB5.out⟩)
        obtain ⟨c9, hc9⟩ : ∃ c9, c9 = countP p5 2 1 := ⟨_, rfl⟩
        have hcs : c9 + 2 = c0 := by
          have := hT.count hO (by omega) (by omega) (by omega)
          omega
        have hc32 : c0 ≤ 32 := by rw [hc]; exact countP_le _ _ _
        have hc9l : c9 ≤ 32 := by omega
        have HQ := Lib.hid (show c9 + 2 = countP q 2 1 from by rw [← hc]; exact hcs)
        have r5 : (f : Int).tmod 2 = 0 := by rw [Int.tmod_eq_emod_of_nonneg (by omega)]; omega
        have r5' : (f : Int) % 2 = 0 := by omega
        have r6 : (c0 : Int) - 2 = (c9 : Int) := by omega
        have d1 : decide ((f : Int) < 64) = false := decide_eq_false (by omega)
        have d2 : decide (96 < (f : Int) + 2) = false := decide_eq_false (by omega)
        clear hm5 hk5 hb5 hc hT hO e1 e2 hc9 hcs
        go_wp2_with fail
        refine (st_count (V := fun y p => y = c9 ∧ IsT p q f (f + 2)) 2 1 H5.out (fun p hp => ⟨by
          have e1 := hp.count HO.out (by have := HFB.out; omega) (by omega) (by have := HFB.out; omega)
          have e2 := HQ.out
          omega, hp⟩)).mono ?_
        rintro e w6 ⟨y, rfl, h6⟩
        obtain ⟨rfl, h7⟩ := h6.and_
        have H7 := Lib.hid h7
        clear h6 h7
        go_wp2_with fail
        clear d1 d2 r5 r5' r6
        go_loopg [12] 2 (fun gg s12 wx => ∃ k : Nat, k + gg = f + 2 ∧ f ≤ k ∧ s12 = .int .i64 (k : Int) ∧ St w wx gS (fun p => IsT p q k (f + 2)))
        case atStart => exact ⟨f, rfl, Nat.le_refl _, rfl, H7.out⟩
        case round =>
          obtain ⟨k, hkg, hfk, rfl, h8⟩ := hrel
          have H8 := Lib.hid h8
          clear h8
          by_cases hlt2 : k < f + 2
          · have t3 : decide ((k : Int) < (f : Int) + 2) = true := decide_eq_true (by omega)
            go_wp2_with fail
            refine (st_use (V := fun y p => y = 5 ∧ IsT p q k (f + 2)) (k : Int) H8.out (fun p hp => ⟨hp.use hlt2 (by omega), hp⟩)).mono ?_
            rintro e w9 ⟨y, rfl, h9⟩
            obtain ⟨rfl, h10⟩ := h9.and_
            have H10 := Lib.hid h10
            clear h9 h10
            go_wp2_with fail
            refine (st_free (V := fun b p => b = true ∧ IsT p q (k + 1) (f + 2)) (k : Int) H10.out (fun p hp => hp.free_ (fun x x1 x2 => HO.out x (by omega) x2) hlt2 (by omega))).mono ?_
            rintro e w11 ⟨b, rfl, h11⟩
            obtain ⟨rfl, h12⟩ := h11.and_
            have H12 := Lib.hid h12
            clear h11 h12
            go_wp2_with fail
            refine (st_free (V := fun b p => b = false ∧ IsT p q (k + 1) (f + 2)) (k : Int) H12.out (fun p hp => by
              rw [hp.again (HO.out k hfk hlt2) (by omega)]
              exact ⟨rfl, hp⟩)).mono ?_
            rintro e w13 ⟨b, rfl, h13⟩
            obtain ⟨rfl, h14⟩ := h13.and_
            have H14 := Lib.hid h14
            clear h13 h14
            go_wp2_with fail
            go_roundg (f + 2 - (k + 1))
            case measure => omega
            case rel => exact ⟨k + 1, by omega, by omega, by go_num, H14.out⟩
          · obtain rfl : k = f + 2 := by omega
            have t3 : decide (((f + 2 : Nat) : Int) < (f : Int) + 2) = false := decide_eq_false (by omega)
            go_wp2_with fail
            refine (poolAnswers_any wr).mono ?_
            rintro e w11 ⟨rfl, hb11⟩
            have H11 := Lib.hid (H8.out.fresh hb11)
            clear hb11
            go_wp2_with fail
            refine (st_count (V := fun y p => y = c0 ∧ True) 2 1 H11.out (fun p hp => ⟨by
              have e1 := hp.count (fun x x1 x2 => absurd x2 (by omega)) (by have := HFB.out; omega) (Nat.le_refl _) (by have := HFB.out; omega)
              have e2 := HC.out
              omega, trivial⟩)).mono ?_
            rintro e w12 ⟨y, rfl, h12⟩
            obtain ⟨rfl, h13⟩ := h12.and_
            have H13 := Lib.hid h13
            clear h12 h13
            go_wp2
            go_ret
            exact ⟨by simp, H13.out.bel⟩
set_option maxRecDepth 20000 in
set_option maxHeartbeats 3200000 in
theorem poolRuns_2 (n : Nat) (v : Value) (xs : List Nat) (w : World) (hn : n % 6 = 2) (h1 : Bts w w.heap.size v xs) (hl1 : xs.length ≤ 40) :
    Calls Try.prog 8 #[.int .u8 (n : Int), v] w fun e w' => e = .returned (.bool true) ∧ Below w.heap.size w w' := by
  obtain ⟨A1, N1, c1, rfl, hN1, _, _, _, hby, hz1⟩ := h1
  have HZ1 := Lib.hid hz1
  have HBY := Lib.hid hby
  have HN1 := Lib.hid hN1
  have t1 : decide ((40 : Int) < (N1 : Int)) = false := decide_eq_false (by omega)
  have hN40 : N1 ≤ 40 := by omega
  have r2 : (n : Int).tmod 6 = 2 := by rw [Int.tmod_eq_emod_of_nonneg (by omega)]; omega
  have r2' : (n : Int) % 6 = 2 := by omega
  clear hl1 hN1 hz1 hby hn
  go_enter Try.func8, Try.ntmps8
  go_wp2_with fail
  refine (st_new (w0 := w) (Q := Is0) is0_new w (Below.refl _ _)).mono ?_
  rintro e w1 ⟨gS, rfl, h1⟩
  have H1 := Lib.hid h1
  clear h1
  go_wp2_with fail
  refine (st_online (R := IsR) 0 2 2 H1.out (fun p hp => by
    obtain ⟨⟨er, p'⟩, h⟩ : ∃ r, onP p 2 2 [] = r := ⟨_, rfl⟩
    obtain ⟨rfl, h2⟩ := hp.on (s := 2) (z := 2) (by omega) (.inl rfl) h
    exact ⟨p', h, h2.rr⟩)).mono ?_
  rintro e w2 ⟨rfl, h2⟩
  have H2 := Lib.hid h2
  clear h2
  go_wp2_with fail
  go_loopg [6] N1 (fun gg s6 wx => ∃ i : Nat, i + gg = N1 ∧ s6 = .int .i64 (i : Int) ∧ St w wx gS IsR)
  case atStart => exact ⟨0, by omega, rfl, H2.out⟩
  case round =>
    obtain ⟨i, hig, rfl, h3⟩ := hrel
    have H3 := Lib.hid h3
    clear h3
    by_cases hlt : i < N1
    · have t2 : decide ((i : Int) < (N1 : Int)) = true := decide_eq_true (by omega)
      obtain ⟨b, off, rfl, hbB, hc⟩ := HZ1.out (by omega)
      obtain ⟨y, hy⟩ : ∃ y, y = xs.getD i 0 := ⟨_, rfl⟩
      have hcell : wr.cell? ⟨b, off + i, none⟩ = some (.int .u8 (y : Int)) := by
        rw [hy, H3.out.bel.cell (p := ⟨b, off + i, none⟩) hbB]
        exact hc i hlt
      have hy256 : y < 256 := by rw [hy]; exact HBY.out i hlt
      obtain ⟨j, hj⟩ : ∃ j, j = y % 32 := ⟨_, rfl⟩
      obtain ⟨f0, hf0⟩ : ∃ f0, f0 = 64 + j := ⟨_, rfl⟩
      have r3 : (y : Int).tmod 32 = (j : Int) := by rw [Int.tmod_eq_emod_of_nonneg (by omega)]; omega
      have r3' : (y : Int) % 32 = (j : Int) := by omega
      have r4 : (64 : Int) + (j : Int) = (f0 : Int) := by omega
      have hj32 : j < 32 := by omega
      have HF0 := Lib.hid (show 64 ≤ f0 ∧ f0 < 96 from by omega)
      have q1 : (0 : Int) ≤ (i : Int) := by omega
      have q2 : (i : Int) < (N1 : Int) := by omega
      clear hy hj hf0 hc
      go_wp2_with fail
      refine (st_spoil (V := fun _ p => IsR p) (f0 : Int) H3.out (fun p hp => hp.spoil HF0.out.1 HF0.out.2)).mono ?_
      rintro e w4 ⟨bb, rfl, h4⟩
      have H4 := Lib.hid h4
      clear h4
      go_wp2_with fail
      go_roundg (N1 - (i + 1))
      case measure => omega
      case rel => exact ⟨i + 1, by omega, by go_num, H4.out⟩
    · obtain rfl : i = N1 := by omega
      have t2 : decide ((i : Int) < (i : Int)) = false := decide_eq_false (by omega)
      go_wp2_with fail
      refine (st_count (V := fun y p => IsR p ∧ y = countP p 2 1) 2 1 H3.out (fun p hp => ⟨hp, rfl⟩)).mono ?_
      rintro e w4 ⟨c0, rfl, h4⟩
      have H4 := Lib.hid h4
      clear h4
      go_wp2_with fail
      refine (st_alloc (V := fun f er p => (er = 4 ∧ c0 = countP p 2 1) ∨ (er = 0 ∧ f % 4 = 0 ∧ 64 ≤ f ∧ f + 4 ≤ 96 ∧ ∃ q, IsT p q f (f + 4) ∧ (∀ k, f ≤ k → k < f + 4 → q.u.getD k 0 = 1) ∧ c0 = countP q 2 1)) 5 2 false H4.out (fun p f er p' hp ha => by
        rcases hp.1.alloc (o := 2) (by omega) ha with ⟨a1, a2⟩ | ⟨a1, a2, a3, a4, a5, a6⟩
        · exact .inl ⟨a1, by rw [a2]; exact hp.2⟩
        · exact .inr ⟨a1, a2, a3, a4, p, a5, a6, hp.2⟩)).mono ?_
      rintro e w5 ⟨f, er, rfl, K5, p5, hm5, hv, hk5, hb5⟩
      have HM5 := Lib.hid hm5
      have HK5 := Lib.hid hk5
      have HB5 := Lib.hid hb5
      rcases hv with ⟨rfl, hc⟩ | ⟨rfl, e1, e2, e3, q, hT, hO, hc⟩
      · have H5 := Lib.hid (show St w w5 gS (fun p => c0 = countP p 2 1) from ⟨K5, p5, HM5.out, hc, HK5.out, HB5.out⟩)
        clear hm5 hk5 hb5 hc
        go_wp2_with fail
        refine (poolAnswers_any w5).mono ?_
        rintro e w6 ⟨rfl, hb6⟩
        have H6 := Lib.hid (H5.out.fresh hb6)
        clear hb6
        go_wp2_with fail
        refine (st_count (V := fun y p => y = c0 ∧ True) 2 1 H6.out (fun p hp => ⟨hp.symm, trivial⟩)).mono ?_
        rintro e w7 ⟨y, rfl, h7⟩
        obtain ⟨rfl, h8⟩ := h7.and_
        have H8 := Lib.hid h8
        clear h7 h8
        go_wp2
        go_ret
        exact ⟨by simp, H8.out.bel⟩
      · have HO := Lib.hid hO
        have HC := Lib.hid hc
        have HFB := Lib.hid (show f % 4 = 0 ∧ 64 ≤ f ∧ f + 4 ≤ 96 from ⟨e1, e2, e3⟩)
        have H5 := Lib.hid (show St w w5 gS (fun p => IsT p q f (f + 4)) from ⟨K5, p5, HM5.out, hT, HK5.out, HB5.out⟩)
        obtain ⟨c9, hc9⟩ : ∃ c9, c9 = countP p5 2 1 := ⟨_, rfl⟩
        have hcs : c9 + 4 = c0 := by
          have := hT.count hO (by omega) (by omega) (by omega)
          omega
        have hc32 : c0 ≤ 32 := by rw [hc]; exact countP_le _ _ _
        have hc9l : c9 ≤ 32 := by omega
        have HQ := Lib.hid (show c9 + 4 = countP q 2 1 from by rw [← hc]; exact hcs)
        have r5 : (f : Int).tmod 4 = 0 := by rw [Int.tmod_eq_emod_of_nonneg (by omega)]; omega
        have r5' : (f : Int) % 4 = 0 := by omega
        have r6 : (c0 : Int) - 4 = (c9 : Int) := by omega
        have d1 : decide ((f : Int) < 64) = false := decide_eq_false (by omega)
        have d2 : decide (96 < (f : Int) + 4) = false := decide_eq_false (by omega)
        clear hm5 hk5 hb5 hc hT hO e1 e2 hc9 hcs
        go_wp2_with fail
        refine (st_count (V := fun y p => y = c9 ∧ IsT p q f (f + 4)) 2 1 H5.out (fun p hp => ⟨by
          have e1 := hp.count HO.out (by have := HFB.out; omega) (by omega) (by have := HFB.out; omega)
          have e2 := HQ.out
          omega, hp⟩)).mono ?_
        rintro e w6 ⟨y, rfl, h6⟩
        obtain ⟨rfl, h7⟩ := h6.and_
        have H7 := Lib.hid h7
        clear h6 h7
        go_wp2_with fail
        clear d1 d2 r5 r5' r6
        go_loopg [12] 4 (fun gg s12 wx => ∃ k : Nat, k + gg = f + 4 ∧ f ≤ k ∧ s12 = .int .i64 (k : Int) ∧ St w wx gS (fun p => IsT p q k (f + 4)))
        case atStart => exact ⟨f, rfl, Nat.le_refl _, rfl, H7.out⟩
        case round =>
          obtain ⟨k, hkg, hfk, rfl, h8⟩ := hrel
          have H8 := Lib.hid h8
          clear h8
          by_cases hlt2 : k < f + 4
          · have t3 : decide ((k : Int) < (f : Int) + 4) = true := decide_eq_true (by omega)
            go_wp2_with fail
            refine (st_use (V := fun y p => y = 5 ∧ IsT p q k (f + 4)) (k : Int) H8.out (fun p hp => ⟨hp.use hlt2 (by omega), hp⟩)).mono ?_
            rintro e w9 ⟨y, rfl, h9⟩
            obtain ⟨rfl, h10⟩ := h9.and_
            have H10 := Lib.hid h10
            clear h9 h10
            go_wp2_with fail
            refine (st_free (V := fun b p => b = true ∧ IsT p q (k + 1) (f + 4)) (k : Int) H10.out (fun p hp => hp.free_ (fun x x1 x2 => HO.out x (by omega) x2) hlt2 (by omega))).mono ?_
            rintro e w11 ⟨b, rfl, h11⟩
            obtain ⟨rfl, h12⟩ := h11.and_
            have H12 := Lib.hid h12
            clear h11 h12
            go_wp2_with fail
            refine (st_free (V := fun b p => b = false ∧ IsT p q (k + 1) (f + 4)) (k : Int) H12.out (fun p hp => by
              rw [hp.again (HO.out k hfk hlt2) (by omega)]
              exact ⟨rfl, hp⟩)).mono ?_
            rintro e w13 ⟨b, rfl, h13⟩
            obtain ⟨rfl, h14⟩ := h13.and_
            have H14 := Lib.hid h14
            clear h13 h14
            go_wp2_with fail
            go_roundg (f + 4 - (k + 1))
            case measure => omega
            case rel => exact ⟨k + 1, by omega, by omega, by go_num, H14.out⟩
          · obtain rfl : k = f + 4 := by omega
            have t3 : decide (((f + 4 : Nat) : Int) < (f : Int) + 4) = false := decide_eq_false (by omega)
            go_wp2_with fail
            refine (poolAnswers_any wr).mono ?_
            rintro e w11 ⟨rfl, hb11⟩
            have H11 := Lib.hid (H8.out.fresh hb11)
            clear hb11
            go_wp2_with fail
            refine (st_count (V := fun y p => y = c0 ∧ True) 2 1 H11.out (fun p hp => ⟨by
              have e1 := hp.count (fun x x1 x2 => absurd x2 (by omega)) (by have := HFB.out; omega) (Nat.le_refl _) (by have := HFB.out; omega)
              have e2 := HC.out
              omega, trivial⟩)).mono ?_
            rintro e w12 ⟨y, rfl, h12⟩
            obtain ⟨rfl, h13⟩ := h12.and_
            have H13 := Lib.hid h13
            clear h12 h13
            go_wp2
            go_ret
            exact ⟨by simp, H13.out.bel⟩
set_option maxRecDepth 20000 in
set_option maxHeartbeats 3200000 in
theorem poolRuns_3 (n : Nat) (v : Value) (xs : List Nat) (w : World) (hn : n % 6 = 3) (h1 : Bts w w.heap.size v xs) (hl1 : xs.length ≤ 40) :
    Calls Try.prog 8 #[.int .u8 (n : Int), v] w fun e w' => e = .returned (.bool true) ∧ Below w.heap.size w w' := by
  obtain ⟨A1, N1, c1, rfl, hN1, _, _, _, hby, hz1⟩ := h1
  have HZ1 := Lib.hid hz1
  have HBY := Lib.hid hby
  have HN1 := Lib.hid hN1
  have t1 : decide ((40 : Int) < (N1 : Int)) = false := decide_eq_false (by omega)
  have hN40 : N1 ≤ 40 := by omega
  have r2 : (n : Int).tmod 6 = 3 := by rw [Int.tmod_eq_emod_of_nonneg (by omega)]; omega
  have r2' : (n : Int) % 6 = 3 := by omega
  clear hl1 hN1 hz1 hby hn
  go_enter Try.func8, Try.ntmps8
  go_wp2_with fail
  refine (st_new (w0 := w) (Q := Is0) is0_new w (Below.refl _ _)).mono ?_
  rintro e w1 ⟨gS, rfl, h1⟩
  have H1 := Lib.hid h1
  clear h1
  go_wp2_with fail
  refine (st_online (R := IsR) 0 2 2 H1.out (fun p hp => by
    obtain ⟨⟨er, p'⟩, h⟩ : ∃ r, onP p 2 2 [] = r := ⟨_, rfl⟩
    obtain ⟨rfl, h2⟩ := hp.on (s := 2) (z := 2) (by omega) (.inl rfl) h
    exact ⟨p', h, h2.rr⟩)).mono ?_
  rintro e w2 ⟨rfl, h2⟩
  have H2 := Lib.hid h2
  clear h2
  go_wp2_with fail
  go_loopg [6] N1 (fun gg s6 wx => ∃ i : Nat, i + gg = N1 ∧ s6 = .int .i64 (i : Int) ∧ St w wx gS IsR)
  case atStart => exact ⟨0, by omega, rfl, H2.out⟩
  case round =>
    obtain ⟨i, hig, rfl, h3⟩ := hrel
    have H3 := Lib.hid h3
    clear h3
    by_cases hlt : i < N1
    · have t2 : decide ((i : Int) < (N1 : Int)) = true := decide_eq_true (by omega)
      obtain ⟨b, off, rfl, hbB, hc⟩ := HZ1.out (by omega)
      obtain ⟨y, hy⟩ : ∃ y, y = xs.getD i 0 := ⟨_, rfl⟩
      have hcell : wr.cell? ⟨b, off + i, none⟩ = some (.int .u8 (y : Int)) := by
        rw [hy, H3.out.bel.cell (p := ⟨b, off + i, none⟩) hbB]
        exact hc i hlt
      have hy256 : y < 256 := by rw [hy]; exact HBY.out i hlt
      obtain ⟨j, hj⟩ : ∃ j, j = y % 32 := ⟨_, rfl⟩
      obtain ⟨f0, hf0⟩ : ∃ f0, f0 = 64 + j := ⟨_, rfl⟩
      have r3 : (y : Int).tmod 32 = (j : Int) := by rw [Int.tmod_eq_emod_of_nonneg (by omega)]; omega
      have r3' : (y : Int) % 32 = (j : Int) := by omega
      have r4 : (64 : Int) + (j : Int) = (f0 : Int) := by omega
      have hj32 : j < 32 := by omega
      have HF0 := Lib.hid (show 64 ≤ f0 ∧ f0 < 96 from by omega)
      have q1 : (0 : Int) ≤ (i : Int) := by omega
      have q2 : (i : Int) < (N1 : Int) := by omega
      clear hy hj hf0 hc
      go_wp2_with fail
      refine (st_spoil (V := fun _ p => IsR p) (f0 : Int) H3.out (fun p hp => hp.spoil HF0.out.1 HF0.out.2)).mono ?_
      rintro e w4 ⟨bb, rfl, h4⟩
      have H4 := Lib.hid h4
      clear h4
      go_wp2_with fail
      go_roundg (N1 - (i + 1))
      case measure => omega
      case rel => exact ⟨i + 1, by omega, by go_num, H4.out⟩
    · obtain rfl : i = N1 := by omega
      have t2 : decide ((i : Int) < (i : Int)) = false := decide_eq_false (by omega)
      go_wp2_with fail
      refine (st_count (V := fun y p => IsR p ∧ y = countP p 2 1) 2 1 H3.out (fun p hp => ⟨hp, rfl⟩)).mono ?_
      rintro e w4 ⟨c0, rfl, h4⟩
      have H4 := Lib.hid h4
      clear h4
      go_wp2_with fail
      refine (st_alloc (V := fun f er p => (er = 4 ∧ c0 = countP p 2 1) ∨ (er = 0 ∧ f % 8 = 0 ∧ 64 ≤ f ∧ f + 8 ≤ 96 ∧ ∃ q, IsT p q f (f + 8) ∧ (∀ k, f ≤ k → k < f + 8 → q.u.getD k 0 = 1) ∧ c0 = countP q 2 1)) 5 3 false H4.out (fun p f er p' hp ha => by
        rcases hp.1.alloc (o := 3) (by omega) ha with ⟨a1, a2⟩ | ⟨a1, a2, a3, a4, a5, a6⟩
        · exact .inl ⟨a1, by rw [a2]; exact hp.2⟩
        · exact .inr ⟨a1, a2, a3, a4, p, a5, a6, hp.2⟩)).mono ?_
      rintro e w5 ⟨f, er, rfl, K5, p5, hm5, hv, hk5, hb5⟩
      have HM5 := Lib.hid hm5
      have HK5 := Lib.hid hk5
      have HB5 := Lib.hid hb5
      rcases hv with ⟨rfl, hc⟩ | ⟨rfl, e1, e2, e3, q, hT, hO, hc⟩
      · have H5 := Lib.hid (show St w w5 gS (fun p => c0 = countP p 2 1) from ⟨K5, p5, HM5.out, hc, HK5.out, HB5.out⟩)
        clear hm5 hk5 hb5 hc
        go_wp2_with fail
        refine (poolAnswers_any w5).mono ?_
        rintro e w6 ⟨rfl, hb6⟩
        have H6 := Lib.hid (H5.out.fresh hb6)
        clear hb6
        go_wp2_with fail
        refine (st_count (V := fun y p => y = c0 ∧ True) 2 1 H6.out (fun p hp => ⟨hp.symm, trivial⟩)).mono ?_
        rintro e w7 ⟨y, rfl, h7⟩
        obtain ⟨rfl, h8⟩ := h7.and_
        have H8 := Lib.hid h8
        clear h7 h8
        go_wp2
        go_ret
        exact ⟨by simp, H8.out.bel⟩
      · have HO := Lib.hid hO
        have HC := Lib.hid hc
        have HFB := Lib.hid (show f % 8 = 0 ∧ 64 ≤ f ∧ f + 8 ≤ 96 from ⟨e1, e2, e3⟩)
        have H5 := Lib.hid (show St w w5 gS (fun p => IsT p q f (f + 8)) from ⟨K5, p5, HM5.out, hT, HK5.out, HB5.out⟩)
        obtain ⟨c9, hc9⟩ : ∃ c9, c9 = countP p5 2 1 := ⟨_, rfl⟩
        have hcs : c9 + 8 = c0 := by
          have := hT.count hO (by omega) (by omega) (by omega)
          omega
        have hc32 : c0 ≤ 32 := by rw [hc]; exact countP_le _ _ _
        have hc9l : c9 ≤ 32 := by omega
        have HQ := Lib.hid (show c9 + 8 = countP q 2 1 from by rw [← hc]; exact hcs)
        have r5 : (f : Int).tmod 8 = 0 := by rw [Int.tmod_eq_emod_of_nonneg (by omega)]; omega
        have r5' : (f : Int) % 8 = 0 := by omega
        have r6 : (c0 : Int) - 8 = (c9 : Int) := by omega
        have d1 : decide ((f : Int) < 64) = false := decide_eq_false (by omega)
        have d2 : decide (96 < (f : Int) + 8) = false := decide_eq_false (by omega)
        clear hm5 hk5 hb5 hc hT hO e1 e2 hc9 hcs
        go_wp2_with fail
        refine (st_count (V := fun y p => y = c9 ∧ IsT p q f (f + 8)) 2 1 H5.out (fun p hp => ⟨by
          have e1 := hp.count HO.out (by have := HFB.out; omega) (by omega) (by have := HFB.out; omega)
          have e2 := HQ.out
          omega, hp⟩)).mono ?_
        rintro e w6 ⟨y, rfl, h6⟩
        obtain ⟨rfl, h7⟩ := h6.and_
        have H7 := Lib.hid h7
        clear h6 h7
        go_wp2_with fail
        clear d1 d2 r5 r5' r6
        go_loopg [12] 8 (fun gg s12 wx => ∃ k : Nat, k + gg = f + 8 ∧ f ≤ k ∧ s12 = .int .i64 (k : Int) ∧ St w wx gS (fun p => IsT p q k (f + 8)))
        case atStart => exact ⟨f, rfl, Nat.le_refl _, rfl, H7.out⟩
        case round =>
          obtain ⟨k, hkg, hfk, rfl, h8⟩ := hrel
          have H8 := Lib.hid h8
          clear h8
          by_cases hlt2 : k < f + 8
          · have t3 : decide ((k : Int) < (f : Int) + 8) = true := decide_eq_true (by omega)
            go_wp2_with fail
            refine (st_use (V := fun y p => y = 5 ∧ IsT p q k (f + 8)) (k : Int) H8.out (fun p hp => ⟨hp.use hlt2 (by omega), hp⟩)).mono ?_
            rintro e w9 ⟨y, rfl, h9⟩
            obtain ⟨rfl, h10⟩ := h9.and_
            have H10 := Lib.hid h10
            clear h9 h10
            go_wp2_with fail
            refine (st_free (V := fun b p => b = true ∧ IsT p q (k + 1) (f + 8)) (k : Int) H10.out (fun p hp => hp.free_ (fun x x1 x2 => HO.out x (by omega) x2) hlt2 (by omega))).mono ?_
            rintro e w11 ⟨b, rfl, h11⟩
            obtain ⟨rfl, h12⟩ := h11.and_
            have H12 := Lib.hid h12
            clear h11 h12
            go_wp2_with fail
            refine (st_free (V := fun b p => b = false ∧ IsT p q (k + 1) (f + 8)) (k : Int) H12.out (fun p hp => by
              rw [hp.again (HO.out k hfk hlt2) (by omega)]
              exact ⟨rfl, hp⟩)).mono ?_
            rintro e w13 ⟨b, rfl, h13⟩
            obtain ⟨rfl, h14⟩ := h13.and_
            have H14 := Lib.hid h14
            clear h13 h14
            go_wp2_with fail
            go_roundg (f + 8 - (k + 1))
            case measure => omega
            case rel => exact ⟨k + 1, by omega, by omega, by go_num, H14.out⟩
          · obtain rfl : k = f + 8 := by omega
            have t3 : decide (((f + 8 : Nat) : Int) < (f : Int) + 8) = false := decide_eq_false (by omega)
            go_wp2_with fail
            refine (poolAnswers_any wr).mono ?_
            rintro e w11 ⟨rfl, hb11⟩
            have H11 := Lib.hid (H8.out.fresh hb11)
            clear hb11
            go_wp2_with fail
            refine (st_count (V := fun y p => y = c0 ∧ True) 2 1 H11.out (fun p hp => ⟨by
              have e1 := hp.count (fun x x1 x2 => absurd x2 (by omega)) (by have := HFB.out; omega) (Nat.le_refl _) (by have := HFB.out; omega)
              have e2 := HC.out
              omega, trivial⟩)).mono ?_
            rintro e w12 ⟨y, rfl, h12⟩
            obtain ⟨rfl, h13⟩ := h12.and_
            have H13 := Lib.hid h13
            clear h12 h13
            go_wp2
            go_ret
            exact ⟨by simp, H13.out.bel⟩
set_option maxRecDepth 20000 in
set_option maxHeartbeats 3200000 in
theorem poolRuns_4 (n : Nat) (v : Value) (xs : List Nat) (w : World) (hn : n % 6 = 4) (h1 : Bts w w.heap.size v xs) (hl1 : xs.length ≤ 40) :
    Calls Try.prog 8 #[.int .u8 (n : Int), v] w fun e w' => e = .returned (.bool true) ∧ Below w.heap.size w w' := by
  obtain ⟨A1, N1, c1, rfl, hN1, _, _, _, hby, hz1⟩ := h1
  have HZ1 := Lib.hid hz1
  have HBY := Lib.hid hby
  have HN1 := Lib.hid hN1
  have t1 : decide ((40 : Int) < (N1 : Int)) = false := decide_eq_false (by omega)
  have hN40 : N1 ≤ 40 := by omega
  have r2 : (n : Int).tmod 6 = 4 := by rw [Int.tmod_eq_emod_of_nonneg (by omega)]; omega
  have r2' : (n : Int) % 6 = 4 := by omega
  clear hl1 hN1 hz1 hby hn
  go_enter Try.func8, Try.ntmps8
  go_wp2_with fail
  refine (st_new (w0 := w) (Q := Is0) is0_new w (Below.refl _ _)).mono ?_
  rintro e w1 ⟨gS, rfl, h1⟩
  have H1 := Lib.hid h1
  clear h1
  go_wp2_with fail
  refine (st_online (R := IsR) 0 2 2 H1.out (fun p hp => by
    obtain ⟨⟨er, p'⟩, h⟩ : ∃ r, onP p 2 2 [] = r := ⟨_, rfl⟩
    obtain ⟨rfl, h2⟩ := hp.on (s := 2) (z := 2) (by omega) (.inl rfl) h
    exact ⟨p', h, h2.rr⟩)).mono ?_
  rintro e w2 ⟨rfl, h2⟩
  have H2 := Lib.hid h2
  clear h2
  go_wp2_with fail
  go_loopg [6] N1 (fun gg s6 wx => ∃ i : Nat, i + gg = N1 ∧ s6 = .int .i64 (i : Int) ∧ St w wx gS IsR)
  case atStart => exact ⟨0, by omega, rfl, H2.out⟩
  case round =>
    obtain ⟨i, hig, rfl, h3⟩ := hrel
    have H3 := Lib.hid h3
    clear h3
    by_cases hlt : i < N1
    · have t2 : decide ((i : Int) < (N1 : Int)) = true := decide_eq_true (by omega)
      obtain ⟨b, off, rfl, hbB, hc⟩ := HZ1.out (by omega)
      obtain ⟨y, hy⟩ : ∃ y, y = xs.getD i 0 := ⟨_, rfl⟩
      have hcell : wr.cell? ⟨b, off + i, none⟩ = some (.int .u8 (y : Int)) := by
        rw [hy, H3.out.bel.cell (p := ⟨b, off + i, none⟩) hbB]
        exact hc i hlt
      have hy256 : y < 256 := by rw [hy]; exact HBY.out i hlt
      obtain ⟨j, hj⟩ : ∃ j, j = y % 32 := ⟨_, rfl⟩
      obtain ⟨f0, hf0⟩ : ∃ f0, f0 = 64 + j := ⟨_, rfl⟩
      have r3 : (y : Int).tmod 32 = (j : Int) := by rw [Int.tmod_eq_emod_of_nonneg (by omega)]; omega
      have r3' : (y : Int) % 32 = (j : Int) := by omega
      have r4 : (64 : Int) + (j : Int) = (f0 : Int) := by omega
      have hj32 : j < 32 := by omega
      have HF0 := Lib.hid (show 64 ≤ f0 ∧ f0 < 96 from by omega)
      have q1 : (0 : Int) ≤ (i : Int) := by omega
      have q2 : (i : Int) < (N1 : Int) := by omega
      clear hy hj hf0 hc
      go_wp2_with fail
      refine (st_spoil (V := fun _ p => IsR p) (f0 : Int) H3.out (fun p hp => hp.spoil HF0.out.1 HF0.out.2)).mono ?_
      rintro e w4 ⟨bb, rfl, h4⟩
      have H4 := Lib.hid h4
      clear h4
      go_wp2_with fail
      go_roundg (N1 - (i + 1))
      case measure => omega
      case rel => exact ⟨i + 1, by omega, by go_num, H4.out⟩
    · obtain rfl : i = N1 := by omega
      have t2 : decide ((i : Int) < (i : Int)) = false := decide_eq_false (by omega)
      go_wp2_with fail
      refine (st_count (V := fun y p => IsR p ∧ y = countP p 2 1) 2 1 H3.out (fun p hp => ⟨hp, rfl⟩)).mono ?_
      rintro e w4 ⟨c0, rfl, h4⟩
      have H4 := Lib.hid h4
      clear h4
      go_wp2_with fail
      refine (st_alloc (V := fun f er p => (er = 4 ∧ c0 = countP p 2 1) ∨ (er = 0 ∧ f % 16 = 0 ∧ 64 ≤ f ∧ f + 16 ≤ 96 ∧ ∃ q, IsT p q f (f + 16) ∧ (∀ k, f ≤ k → k < f + 16 → q.u.getD k 0 = 1) ∧ c0 = countP q 2 1)) 5 4 false H4.out (fun p f er p' hp ha => by
        rcases hp.1.alloc (o := 4) (by omega) ha with ⟨a1, a2⟩ | ⟨a1, a2, a3, a4, a5, a6⟩
        · exact .inl ⟨a1, by rw [a2]; exact hp.2⟩
        · exact .inr ⟨a1, a2, a3, a4, p, a5, a6, hp.2⟩)).mono ?_
      rintro e w5 ⟨f, er, rfl, K5, p5, hm5, hv, hk5, hb5⟩
      have HM5 := Lib.hid hm5
      have HK5 := Lib.hid hk5
      have HB5 := Lib.hid hb5
      rcases hv with ⟨rfl, hc⟩ | ⟨rfl, e1, e2, e3, q, hT, hO, hc⟩
      · have H5 := Lib.hid (show St w w5 gS (fun p => c0 = countP p 2 1) from ⟨K5, p5, HM5.out, hc, HK5.out, HB5.out⟩)
        clear hm5 hk5 hb5 hc
        go_wp2_with fail
        refine (poolAnswers_any w5).mono ?_
        rintro e w6 ⟨rfl, hb6⟩
        have H6 := Lib.hid (H5.out.fresh hb6)
        clear hb6
        go_wp2_with fail
        refine (st_count (V := fun y p => y = c0 ∧ True) 2 1 H6.out (fun p hp => ⟨hp.symm, trivial⟩)).mono ?_
        rintro e w7 ⟨y, rfl, h7⟩
        obtain ⟨rfl, h8⟩ := h7.and_
        have H8 := Lib.hid h8
        clear h7 h8
        go_wp2
        go_ret
        exact ⟨by simp, H8.out.bel⟩
      · have HO := Lib.hid hO
        have HC := Lib.hid hc
        have HFB := Lib.hid (show f % 16 = 0 ∧ 64 ≤ f ∧ f + 16 ≤ 96 from ⟨e1, e2, e3⟩)
        have H5 := Lib.hid (show St w w5 gS (fun p => IsT p q f (f + 16)) from ⟨K5, p5, HM5.out, hT, HK5.out, HB5.out⟩)
        obtain ⟨c9, hc9⟩ : ∃ c9, c9 = countP p5 2 1 := ⟨_, rfl⟩
        have hcs : c9 + 16 = c0 := by
          have := hT.count hO (by omega) (by omega) (by omega)
          omega
        have hc32 : c0 ≤ 32 := by rw [hc]; exact countP_le _ _ _
        have hc9l : c9 ≤ 32 := by omega
        have HQ := Lib.hid (show c9 + 16 = countP q 2 1 from by rw [← hc]; exact hcs)
        have r5 : (f : Int).tmod 16 = 0 := by rw [Int.tmod_eq_emod_of_nonneg (by omega)]; omega
        have r5' : (f : Int) % 16 = 0 := by omega
        have r6 : (c0 : Int) - 16 = (c9 : Int) := by omega
        have d1 : decide ((f : Int) < 64) = false := decide_eq_false (by omega)
        have d2 : decide (96 < (f : Int) + 16) = false := decide_eq_false (by omega)
        clear hm5 hk5 hb5 hc hT hO e1 e2 hc9 hcs
        go_wp2_with fail
        refine (st_count (V := fun y p => y = c9 ∧ IsT p q f (f + 16)) 2 1 H5.out (fun p hp => ⟨by
          have e1 := hp.count HO.out (by have := HFB.out; omega) (by omega) (by have := HFB.out; omega)
          have e2 := HQ.out
          omega, hp⟩)).mono ?_
        rintro e w6 ⟨y, rfl, h6⟩
        obtain ⟨rfl, h7⟩ := h6.and_
        have H7 := Lib.hid h7
        clear h6 h7
        go_wp2_with fail
        clear d1 d2 r5 r5' r6
        go_loopg [12] 16 (fun gg s12 wx => ∃ k : Nat, k + gg = f + 16 ∧ f ≤ k ∧ s12 = .int .i64 (k : Int) ∧ St w wx gS (fun p => IsT p q k (f + 16)))
        case atStart => exact ⟨f, rfl, Nat.le_refl _, rfl, H7.out⟩
        case round =>
          obtain ⟨k, hkg, hfk, rfl, h8⟩ := hrel
          have H8 := Lib.hid h8
          clear h8
          by_cases hlt2 : k < f + 16
          · have t3 : decide ((k : Int) < (f : Int) + 16) = true := decide_eq_true (by omega)
            go_wp2_with fail
            refine (st_use (V := fun y p => y = 5 ∧ IsT p q k (f + 16)) (k : Int) H8.out (fun p hp => ⟨hp.use hlt2 (by omega), hp⟩)).mono ?_
            rintro e w9 ⟨y, rfl, h9⟩
            obtain ⟨rfl, h10⟩ := h9.and_
            have H10 := Lib.hid h10
            clear h9 h10
            go_wp2_with fail
            refine (st_free (V := fun b p => b = true ∧ IsT p q (k + 1) (f + 16)) (k : Int) H10.out (fun p hp => hp.free_ (fun x x1 x2 => HO.out x (by omega) x2) hlt2 (by omega))).mono ?_
            rintro e w11 ⟨b, rfl, h11⟩
            obtain ⟨rfl, h12⟩ := h11.and_
            have H12 := Lib.hid h12
            clear h11 h12
            go_wp2_with fail
            refine (st_free (V := fun b p => b = false ∧ IsT p q (k + 1) (f + 16)) (k : Int) H12.out (fun p hp => by
              rw [hp.again (HO.out k hfk hlt2) (by omega)]
              exact ⟨rfl, hp⟩)).mono ?_
            rintro e w13 ⟨b, rfl, h13⟩
            obtain ⟨rfl, h14⟩ := h13.and_
            have H14 := Lib.hid h14
            clear h13 h14
            go_wp2_with fail
            go_roundg (f + 16 - (k + 1))
            case measure => omega
            case rel => exact ⟨k + 1, by omega, by omega, by go_num, H14.out⟩
          · obtain rfl : k = f + 16 := by omega
            have t3 : decide (((f + 16 : Nat) : Int) < (f : Int) + 16) = false := decide_eq_false (by omega)
            go_wp2_with fail
            refine (poolAnswers_any wr).mono ?_
            rintro e w11 ⟨rfl, hb11⟩
            have H11 := Lib.hid (H8.out.fresh hb11)
            clear hb11
            go_wp2_with fail
            refine (st_count (V := fun y p => y = c0 ∧ True) 2 1 H11.out (fun p hp => ⟨by
              have e1 := hp.count (fun x x1 x2 => absurd x2 (by omega)) (by have := HFB.out; omega) (Nat.le_refl _) (by have := HFB.out; omega)
              have e2 := HC.out
              omega, trivial⟩)).mono ?_
            rintro e w12 ⟨y, rfl, h12⟩
            obtain ⟨rfl, h13⟩ := h12.and_
            have H13 := Lib.hid h13
            clear h12 h13
            go_wp2
            go_ret
            exact ⟨by simp, H13.out.bel⟩
set_option maxRecDepth 20000 in
set_option maxHeartbeats 3200000 in
theorem poolRuns_5 (n : Nat) (v : Value) (xs : List Nat) (w : World) (hn : n % 6 = 5) (h1 : Bts w w.heap.size v xs) (hl1 : xs.length ≤ 40) :
    Calls Try.prog 8 #[.int .u8 (n : Int), v] w fun e w' => e = .returned (.bool true) ∧ Below w.heap.size w w' := by
  obtain ⟨A1, N1, c1, rfl, hN1, _, _, _, hby, hz1⟩ := h1
  have HZ1 := Lib.hid hz1
  have HBY := Lib.hid hby
  have HN1 := Lib.hid hN1
  have t1 : decide ((40 : Int) < (N1 : Int)) = false := decide_eq_false (by omega)
  have hN40 : N1 ≤ 40 := by omega
  have r2 : (n : Int).tmod 6 = 5 := by rw [Int.tmod_eq_emod_of_nonneg (by omega)]; omega
  have r2' : (n : Int) % 6 = 5 := by omega
  clear hl1 hN1 hz1 hby hn
  go_enter Try.func8, Try.ntmps8
  go_wp2_with fail
  refine (st_new (w0 := w) (Q := Is0) is0_new w (Below.refl _ _)).mono ?_
  rintro e w1 ⟨gS, rfl, h1⟩
  have H1 := Lib.hid h1
  clear h1
  go_wp2_with fail
  refine (st_online (R := IsR) 0 2 2 H1.out (fun p hp => by
    obtain ⟨⟨er, p'⟩, h⟩ : ∃ r, onP p 2 2 [] = r := ⟨_, rfl⟩
    obtain ⟨rfl, h2⟩ := hp.on (s := 2) (z := 2) (by omega) (.inl rfl) h
    exact ⟨p', h, h2.rr⟩)).mono ?_
  rintro e w2 ⟨rfl, h2⟩
  have H2 := Lib.hid h2
  clear h2
  go_wp2_with fail
  go_loopg [6] N1 (fun gg s6 wx => ∃ i : Nat, i + gg = N1 ∧ s6 = .int .i64 (i : Int) ∧ St w wx gS IsR)
  case atStart => exact ⟨0, by omega, rfl, H2.out⟩
  case round =>
    obtain ⟨i, hig, rfl, h3⟩ := hrel
    have H3 := Lib.hid h3
    clear h3
    by_cases hlt : i < N1
    · have t2 : decide ((i : Int) < (N1 : Int)) = true := decide_eq_true (by omega)
      obtain ⟨b, off, rfl, hbB, hc⟩ := HZ1.out (by omega)
      obtain ⟨y, hy⟩ : ∃ y, y = xs.getD i 0 := ⟨_, rfl⟩
      have hcell : wr.cell? ⟨b, off + i, none⟩ = some (.int .u8 (y : Int)) := by
        rw [hy, H3.out.bel.cell (p := ⟨b, off + i, none⟩) hbB]
        exact hc i hlt
      have hy256 : y < 256 := by rw [hy]; exact HBY.out i hlt
      obtain ⟨j, hj⟩ : ∃ j, j = y % 32 := ⟨_, rfl⟩
      obtain ⟨f0, hf0⟩ : ∃ f0, f0 = 64 + j := ⟨_, rfl⟩
      have r3 : (y : Int).tmod 32 = (j : Int) := by rw [Int.tmod_eq_emod_of_nonneg (by omega)]; omega
      have r3' : (y : Int) % 32 = (j : Int) := by omega
      have r4 : (64 : Int) + (j : Int) = (f0 : Int) := by omega
      have hj32 : j < 32 := by omega
      have HF0 := Lib.hid (show 64 ≤ f0 ∧ f0 < 96 from by omega)
      have q1 : (0 : Int) ≤ (i : Int) := by omega
      have q2 : (i : Int) < (N1 : Int) := by omega
      clear hy hj hf0 hc
      go_wp2_with fail
      refine (st_spoil (V := fun _ p => IsR p) (f0 : Int) H3.out (fun p hp => hp.spoil HF0.out.1 HF0.out.2)).mono ?_
      rintro e w4 ⟨bb, rfl, h4⟩
      have H4 := Lib.hid h4
      clear h4
      go_wp2_with fail
      go_roundg (N1 - (i + 1))
      case measure => omega
      case rel => exact ⟨i + 1, by omega, by go_num, H4.out⟩
    · obtain rfl : i = N1 := by omega
      have t2 : decide ((i : Int) < (i : Int)) = false := decide_eq_false (by omega)
      go_wp2_with fail
      refine (st_count (V := fun y p => IsR p ∧ y = countP p 2 1) 2 1 H3.out (fun p hp => ⟨hp, rfl⟩)).mono ?_
      rintro e w4 ⟨c0, rfl, h4⟩
      have H4 := Lib.hid h4
      clear h4
      go_wp2_with fail
      refine (st_alloc (V := fun f er p => (er = 4 ∧ c0 = countP p 2 1) ∨ (er = 0 ∧ f % 32 = 0 ∧ 64 ≤ f ∧ f + 32 ≤ 96 ∧ ∃ q, IsT p q f (f + 32) ∧ (∀ k, f ≤ k → k < f + 32 → q.u.getD k 0 = 1) ∧ c0 = countP q 2 1)) 5 5 false H4.out (fun p f er p' hp ha => by
        rcases hp.1.alloc (o := 5) (by omega) ha with ⟨a1, a2⟩ | ⟨a1, a2, a3, a4, a5, a6⟩
        · exact .inl ⟨a1, by rw [a2]; exact hp.2⟩
        · exact .inr ⟨a1, a2, a3, a4, p, a5, a6, hp.2⟩)).mono ?_
      rintro e w5 ⟨f, er, rfl, K5, p5, hm5, hv, hk5, hb5⟩
      have HM5 := Lib.hid hm5
      have HK5 := Lib.hid hk5
      have HB5 := Lib.hid hb5
      rcases hv with ⟨rfl, hc⟩ | ⟨rfl, e1, e2, e3, q, hT, hO, hc⟩
      · have H5 := Lib.hid (show St w w5 gS (fun p => c0 = countP p 2 1) from ⟨K5, p5, HM5.out, hc, HK5.out, HB5.out⟩)
        clear hm5 hk5 hb5 hc
        go_wp2_with fail
        refine (poolAnswers_any w5).mono ?_
        rintro e w6 ⟨rfl, hb6⟩
        have H6 := Lib.hid (H5.out.fresh hb6)
        clear hb6
        go_wp2_with fail
        refine (st_count (V := fun y p => y = c0 ∧ True) 2 1 H6.out (fun p hp => ⟨hp.symm, trivial⟩)).mono ?_
        rintro e w7 ⟨y, rfl, h7⟩
        obtain ⟨rfl, h8⟩ := h7.and_
        have H8 := Lib.hid h8
        clear h7 h8
        go_wp2
        go_ret
        exact ⟨by simp, H8.out.bel⟩
      · have HO := Lib.hid hO
        have HC := Lib.hid hc
        have HFB := Lib.hid (show f % 32 = 0 ∧ 64 ≤ f ∧ f + 32 ≤ 96 from ⟨e1, e2, e3⟩)
        have H5 := Lib.hid (show St w w5 gS (fun p => IsT p q f (f + 32)) from ⟨K5, p5, HM5.out, hT, HK5.out, HB5.out⟩)
        obtain ⟨c9, hc9⟩ : ∃ c9, c9 = countP p5 2 1 := ⟨_, rfl⟩
        have hcs : c9 + 32 = c0 := by
          have := hT.count hO (by omega) (by omega) (by omega)
          omega
        have hc32 : c0 ≤ 32 := by rw [hc]; exact countP_le _ _ _
        have hc9l : c9 ≤ 32 := by omega
        have HQ := Lib.hid (show c9 + 32 = countP q 2 1 from by rw [← hc]; exact hcs)
        have r5 : (f : Int).tmod 32 = 0 := by rw [Int.tmod_eq_emod_of_nonneg (by omega)]; omega
        have r5' : (f : Int) % 32 = 0 := by omega
        have r6 : (c0 : Int) - 32 = (c9 : Int) := by omega
        have d1 : decide ((f : Int) < 64) = false := decide_eq_false (by omega)
        have d2 : decide (96 < (f : Int) + 32) = false := decide_eq_false (by omega)
        clear hm5 hk5 hb5 hc hT hO e1 e2 hc9 hcs
        go_wp2_with fail
        refine (st_count (V := fun y p => y = c9 ∧ IsT p q f (f + 32)) 2 1 H5.out (fun p hp => ⟨by
          have e1 := hp.count HO.out (by have := HFB.out; omega) (by omega) (by have := HFB.out; omega)
          have e2 := HQ.out
          omega, hp⟩)).mono ?_
        rintro e w6 ⟨y, rfl, h6⟩
        obtain ⟨rfl, h7⟩ := h6.and_
        have H7 := Lib.hid h7
        clear h6 h7
        go_wp2_with fail
        clear d1 d2 r5 r5' r6
        go_loopg [12] 32 (fun gg s12 wx => ∃ k : Nat, k + gg = f + 32 ∧ f ≤ k ∧ s12 = .int .i64 (k : Int) ∧ St w wx gS (fun p => IsT p q k (f + 32)))
        case atStart => exact ⟨f, rfl, Nat.le_refl _, rfl, H7.out⟩
        case round =>
          obtain ⟨k, hkg, hfk, rfl, h8⟩ := hrel
          have H8 := Lib.hid h8
          clear h8
          by_cases hlt2 : k < f + 32
          · have t3 : decide ((k : Int) < (f : Int) + 32) = true := decide_eq_true (by omega)
            go_wp2_with fail
            refine (st_use (V := fun y p => y = 5 ∧ IsT p q k (f + 32)) (k : Int) H8.out (fun p hp => ⟨hp.use hlt2 (by omega), hp⟩)).mono ?_
            rintro e w9 ⟨y, rfl, h9⟩
            obtain ⟨rfl, h10⟩ := h9.and_
            have H10 := Lib.hid h10
            clear h9 h10
            go_wp2_with fail
            refine (st_free (V := fun b p => b = true ∧ IsT p q (k + 1) (f + 32)) (k : Int) H10.out (fun p hp => hp.free_ (fun x x1 x2 => HO.out x (by omega) x2) hlt2 (by omega))).mono ?_
            rintro e w11 ⟨b, rfl, h11⟩
            obtain ⟨rfl, h12⟩ := h11.and_
            have H12 := Lib.hid h12
            clear h11 h12
            go_wp2_with fail
            refine (st_free (V := fun b p => b = false ∧ IsT p q (k + 1) (f + 32)) (k : Int) H12.out (fun p hp => by
              rw [hp.again (HO.out k hfk hlt2) (by omega)]
              exact ⟨rfl, hp⟩)).mono ?_
            rintro e w13 ⟨b, rfl, h13⟩
            obtain ⟨rfl, h14⟩ := h13.and_
            have H14 := Lib.hid h14
            clear h13 h14
            go_wp2_with fail
            go_roundg (f + 32 - (k + 1))
            case measure => omega
            case rel => exact ⟨k + 1, by omega, by omega, by go_num, H14.out⟩
          · obtain rfl : k = f + 32 := by omega
            have t3 : decide (((f + 32 : Nat) : Int) < (f : Int) + 32) = false := decide_eq_false (by omega)
            go_wp2_with fail
            refine (poolAnswers_any wr).mono ?_
            rintro e w11 ⟨rfl, hb11⟩
            have H11 := Lib.hid (H8.out.fresh hb11)
            clear hb11
            go_wp2_with fail
            refine (st_count (V := fun y p => y = c0 ∧ True) 2 1 H11.out (fun p hp => ⟨by
              have e1 := hp.count (fun x x1 x2 => absurd x2 (by omega)) (by have := HFB.out; omega) (Nat.le_refl _) (by have := HFB.out; omega)
              have e2 := HC.out
              omega, trivial⟩)).mono ?_
            rintro e w12 ⟨y, rfl, h12⟩
            obtain ⟨rfl, h13⟩ := h12.and_
            have H13 := Lib.hid h13
            clear h12 h13
            go_wp2
            go_ret
            exact ⟨by simp, H13.out.bel⟩
theorem poolRuns_any (n : Nat) (v : Value) (xs : List Nat) (w : World) (h1 : Bts w w.heap.size v xs) :
    Calls Try.prog 8 #[.int .u8 (n : Int), v] w fun e w' => e = .returned (.bool true) ∧ Below w.heap.size w w' := by
  by_cases hl : xs.length ≤ 40
  · have : n % 6 = 0 ∨ n % 6 = 1 ∨ n % 6 = 2 ∨ n % 6 = 3 ∨ n % 6 = 4 ∨ n % 6 = 5 := by omega
    rcases this with h | h | h | h | h | h
    · exact poolRuns_0 n v xs w h h1 hl
    · exact poolRuns_1 n v xs w h h1 hl
    · exact poolRuns_2 n v xs w h h1 hl
    · exact poolRuns_3 n v xs w h h1 hl
    · exact poolRuns_4 n v xs w h h1 hl
    · exact poolRuns_5 n v xs w h h1 hl
  · obtain ⟨A, N, c, rfl, hN, _⟩ := h1
    exact poolRuns_edge n A N c w (by omega)
end Go.Proofs.Ytkpjimpjopbdkaa
