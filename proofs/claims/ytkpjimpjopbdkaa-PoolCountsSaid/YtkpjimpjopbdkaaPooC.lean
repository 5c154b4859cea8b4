/-
  PoolCounts answers true: how many frames of each use a section has, in a pool and in the document's own.
  Conditions: the acts are read in memory.
-/
import Derived.Test.YtkpjimpjopbdkaaPooP
import Derived.Deep.LoopGhost
namespace Go.Proofs.Ytkpjimpjopbdkaa
open Go.RowKit
set_option linter.unusedVariables false
attribute [local irreducible] ps0 badU spanU

/-- How many have one of the first uses. -/
def sumC (u : List Nat) (a n : Nat) : Nat → Nat
  | 0 => 0
  | v + 1 => sumC u a n v + cntU u ((v : Nat) : Int) a n
theorem sumC_succ (u : List Nat) (a n : Nat) : ∀ v, sumC u a (n + 1) v = sumC u a n v + if u.getD (a + n) 0 < v then 1 else 0 := by
  intro v
  induction v with
  | zero => rfl
  | succ v ih =>
    show sumC u a (n + 1) v + cntU u _ a (n + 1) = sumC u a n v + cntU u _ a n + _
    rw [ih, cntU_succ]
    generalize u.getD (a + n) 0 = y
    split <;> split <;> split <;> omega
theorem sumC_all {u : List Nat} {a : Nat} (h : ∀ f, u.getD f 0 ≤ 6) : ∀ n, sumC u a n 7 = n := by
  intro n
  induction n with
  | zero => rfl
  | succ n ih =>
    rw [sumC_succ, ih, if_pos (by have := h (a + n); omega)]
theorem two_count {w0 w w' : World} {gS gV : Nat} {p q : PS} (s v : Int) (h : Two w0 w gS gV p q) :
    Calls Try.prog 13 #[.pointer (some ⟨gS, 0, none⟩), .int .i64 s, .int .i64 v] w fun e w' => e = .returned (.int .i64 ((countP p s v : Nat) : Int)) ∧ Below w.heap.size w w' := by
  obtain ⟨K, h1, _⟩ := h
  exact pool_count gS K p s v w h1

set_option maxRecDepth 20000 in
set_option maxHeartbeats 400000 in
theorem poolCounts_edge (A : Option Addr) (l c : Nat) (s : Int) (w : World) (h : 40 < l) :
    Calls Try.prog 4 #[.slice A l c, .int .i64 s] w fun e w' => e = .returned (.bool true) ∧ Below w.heap.size w w' := by
  have t1 : decide ((40 : Int) < (l : Int)) = true := decide_eq_true (by omega)
  clear h
  go_enter Try.func4, Try.ntmps4
  go_wp2_with fail
  refine (poolAnswers_any _).mono ?_
  rintro e w1 ⟨rfl, hb⟩
  go_wp2
  go_ret
  exact ⟨rfl, hb⟩
set_option maxRecDepth 20000 in
set_option maxHeartbeats 6400000 in
theorem poolCounts_any (v0 : Value) (acts : List Act10) (s : Int) (w : World) (h0 : Acts10 w v0 acts) (hl : acts.length ≤ 40) :
    Calls Try.prog 4 #[v0, .int .i64 s] w fun e w' => e = .returned (.bool true) ∧ Below w.heap.size w w' := by
  obtain ⟨A, N, c, rfl, hN, hm, hz⟩ := h0
  have HZ := Lib.hid hz
  have HN := Lib.hid hN
  have hN80 : N ≤ 40 := by omega
  have t1 : decide ((40 : Int) < (N : Int)) = false := decide_eq_false (by omega)
  obtain ⟨Z, hZ, hzr⟩ := zero_pool
  have HZZ := Lib.hid hZ
  clear hl hN hm hz hZ
  go_enter Try.func4, Try.ntmps4
  go_wp2_with fail
  refine (pool_new w).mono ?_
  rintro e w1 ⟨gS, K, rfl, hm1, hk1, hb1⟩
  have H2 := Lib.hid (show Two w (w1.alloc (.cells Z 31)) gS w1.heap.size ps0 ps0 from by
    have hb := (Below.refl w1.heap.size w1).alloc (Nat.le_refl _) (.cells Z 31)
    refine ⟨K, hm1.fresh hb, ⟨?_, ps0_ok⟩, hk1, hb1.size, fun h => by have := hm1.lt _ h; omega, hb1.trans (hb.mono hb1.size)⟩
    rw [← HZZ.out]
    exact Blk.new w1 _ _)
  clear hm1 hk1 hb1
  go_wp2_with fail
  go_loopg [7] N (fun gg s7 wx => ∃ (i : Nat) (p : PS), i + gg = N ∧ s7 = .int .i64 (i : Int) ∧ Two w wx gS w1.heap.size p p)
  case atStart => exact ⟨0, ps0, by omega, rfl, H2.out⟩
  case round =>
    obtain ⟨i, p, hig, rfl, h3⟩ := hrel
    have H3 := Lib.hid h3
    clear h3
    by_cases hlt : i < N
    · have t4 : decide ((i : Int) < (N : Int)) = true := decide_eq_true (by omega)
      have t5 : (i : Int) < (N : Int) := by omega
      have t6 : (0 : Int) ≤ (i : Int) := by omega
      obtain ⟨b1, o1, rfl, hpa⟩ := HZ.out (by omega)
      obtain ⟨ac, hac⟩ : ∃ ac, acts[i]? = some ac := ⟨_, List.getElem?_eq_getElem (by rw [HN.out]; exact hlt)⟩
      obtain ⟨hbl, c0, c1, c2, c3, c4, hits⟩ := hpa i ac hac
      have HI := Lib.hid hits
      obtain ⟨what, a, b, on, vv, bs⟩ := ac
      simp only at c0 c1 c2 c3 c4 hits
      obtain ⟨Av, nv, cv, rfl, hnv, -⟩ := hits
      have d0 : wr.cell? ⟨b1, o1 + i * 5, none⟩ = some (.int .i64 what) := (H3.out.bel.cell hbl).trans c0
      have d1 : wr.cell? ⟨b1, o1 + i * 5 + 1, none⟩ = some (.int .i64 a) := (H3.out.bel.cell hbl).trans c1
      have d2 : wr.cell? ⟨b1, o1 + i * 5 + 2, none⟩ = some (.int .i64 b) := (H3.out.bel.cell hbl).trans c2
      have d3 : wr.cell? ⟨b1, o1 + i * 5 + 3, none⟩ = some (.bool on) := (H3.out.bel.cell hbl).trans c3
      have d4 : wr.cell? ⟨b1, o1 + i * 5 + 4, none⟩ = some (.slice Av nv cv) := (H3.out.bel.cell hbl).trans c4
      clear c0 c1 c2 c3 c4 hpa hac
      by_cases hn : nv ≤ 100
      · have s1 : decide ((nv : Int) ≤ 100) = true := decide_eq_true (by omega)
        have DO := Lib.hid (do_any w wr gS w1.heap.size p ⟨what, a, b, on, .slice Av nv cv, bs⟩ H3.out HI.out (by show bs.length ≤ 100; omega))
        clear hnv hn
        go_wp2_with fail
        refine DO.out.mono ?_
        rintro e w4 ⟨p', rfl, h4⟩
        have H4 := Lib.hid h4
        clear h4
        go_wp2_with fail
        go_roundg (N - (i + 1))
        case measure => omega
        case rel => exact ⟨i + 1, p', by omega, by go_num, H4.out⟩
      · have s1 : decide ((nv : Int) ≤ 100) = false := decide_eq_false (by omega)
        clear hnv hn
        go_wp2_with fail
        go_roundg (N - (i + 1))
        case measure => omega
        case rel => exact ⟨i + 1, p, by omega, by go_num, H3.out⟩
    · obtain rfl : i = N := by omega
      have t4 : decide ((i : Int) < (i : Int)) = false := decide_eq_false (by omega)
      obtain ⟨G, rfl⟩ : ∃ G, G = gk := ⟨_, rfl⟩
      obtain ⟨W0, rfl⟩ : ∃ W0, W0 = wr := ⟨_, rfl⟩
      by_cases hs : 0 ≤ s ∧ s < 32
      · obtain ⟨k, rfl⟩ := Int.eq_ofNat_of_zero_le hs.1
        have hk : k < 32 := by omega
        have hk0 : decide ((0 : Int) ≤ (k : Int)) = true := decide_eq_true (by omega)
        have hk1 : decide ((k : Int) < 32) = true := decide_eq_true (by omega)
        obtain ⟨a, ha⟩ : ∃ a, a = 32 * k := ⟨_, rfl⟩
        have m1 : (32 : Int) * (k : Int) = (a : Int) := by omega
        have hka : a + 32 ≤ 1024 := by omega
        have HCT := Lib.hid (fun (v : Nat) => show countP p (k : Int) (v : Int) = cntU p.u (v : Int) a 32 from by
          unfold countP
          rw [if_pos (by omega), Int.toNat_natCast, ha])
        have HSA := Lib.hid (sumC_all (u := p.u) (a := a) H3.out.ok.ule 32)
        clear hs ha
        go_wp2_with fail
        go_loopg [8, 9] 7 (fun gg s8 s9 wx => ∃ u : Nat, u + gg = 7 ∧ s9 = .int .i64 (u : Int) ∧ s8 = .int .i64 ((sumC p.u a 32 u : Nat) : Int) ∧ Two w wx gS w1.heap.size p p)
        case atStart => exact ⟨0, by omega, rfl, rfl, H3.out⟩
        case round =>
          obtain ⟨u, hug, rfl, rfl, h5⟩ := hrel
          have H5 := Lib.hid h5
          clear h5
          by_cases hu : u ≤ 6
          · have t5 : decide ((u : Int) ≤ 6) = true := decide_eq_true (by omega)
            obtain ⟨G2, rfl⟩ : ∃ G2, G2 = gk := ⟨_, rfl⟩
            obtain ⟨W5, rfl⟩ : ∃ W5, W5 = wr := ⟨_, rfl⟩
            obtain ⟨sm, hsm⟩ : ∃ sm, sm = sumC p.u a 32 u := ⟨_, rfl⟩
            have hsm2 : sm ≤ 32 * u := by
              rw [hsm]
              clear hsm hug t5
              induction u with
              | zero => exact Nat.le_refl _
              | succ u ih =>
                have := ih (by omega)
                have h2 := cntU_le p.u ((u : Nat) : Int) a 32
                show sumC p.u a 32 u + cntU p.u _ a 32 ≤ _
                omega
            have HSM := Lib.hid hsm
            rw [← hsm]
            clear hsm
            go_wp2_with fail
            go_loopg [10, 11] 32 (fun gg s10 s11 wx => ∃ j f : Nat, j + gg = 32 ∧ f = a + j ∧ s11 = .int .i64 (f : Int) ∧ s10 = .int .i64 ((cntU p.u (u : Int) a j : Nat) : Int) ∧ wx = W5)
            case atStart => exact ⟨0, a, by omega, rfl, rfl, rfl, rfl⟩
            case round =>
              obtain ⟨j, f, hjg, hf, rfl, rfl, hw⟩ := hrel
              obtain rfl : W5 = wr := hw.symm
              have BC := Lib.hid (cntU_succ p.u (u : Int) a j)
              obtain ⟨cn, hcn⟩ : ∃ cn, cn = cntU p.u (u : Int) a j := ⟨_, rfl⟩
              have hcl : cn ≤ j := by rw [hcn]; exact cntU_le _ _ _ _
              have HCN := Lib.hid hcn
              rw [← hcn] at BC ⊢
              rw [← hf] at BC
              have HF := Lib.hid hf
              clear hcn
              by_cases hj : j < 32
              · have t6 : decide ((f : Int) < (a : Int) + 32) = true := decide_eq_true (by omega)
                have f0 : (0 : Int) ≤ (f : Int) := by omega
                have f1 : (f : Int) < 1024 := by omega
                obtain ⟨y, hy⟩ : ∃ y, y = p.u.getD f 0 := ⟨_, rfl⟩
                have hcu : W5.cell? ⟨w1.heap.size, f, none⟩ = some (.int .i64 (y : Int)) := by rw [hy]; exact H5.out.ref.cu (by omega)
                rw [← hy] at BC
                clear hy hf
                by_cases hyu : (y : Int) = (u : Int)
                · have t7 : ((y : Int) == (u : Int)) = true := by simpa using hyu
                  rw [if_pos hyu] at BC
                  clear hyu
                  go_wp2_with fail
                  go_roundg (32 - (j + 1))
                  case measure => omega
                  case rel => exact ⟨j + 1, f + 1, by omega, by have := HF.out; omega, by go_num, by rw [BC.out]; go_num, rfl⟩
                · have t7 : ((y : Int) == (u : Int)) = false := by simpa using hyu
                  rw [if_neg hyu] at BC
                  clear hyu
                  go_wp2_with fail
                  go_roundg (32 - (j + 1))
                  case measure => omega
                  case rel => exact ⟨j + 1, f + 1, by omega, by have := HF.out; omega, by go_num, by rw [BC.out]; go_num, rfl⟩
              · obtain rfl : j = 32 := by omega
                have t6 : decide ((f : Int) < (a : Int) + 32) = false := decide_eq_false (by omega)
                clear hf
                have CC := Lib.hid (two_count (w' := W5) (k : Int) (u : Int) H5.out)
                rw [HCT.out, ← HCN.out] at CC
                go_wp2_with fail
                refine CC.out.mono ?_
                rintro e w6 ⟨rfl, hb6⟩
                have H6 := Lib.hid (H5.out.fresh hb6)
                have t8 : ((cn : Int) != (cn : Int)) = false := by simp
                clear hb6
                go_wp2_with fail
                go_roundg (7 - (u + 1))
                case measure => omega
                case rel =>
                  refine ⟨u + 1, by omega, by go_num, ?_, H6.out⟩
                  show _ = Value.int .i64 (((sumC p.u a 32 u + cntU p.u (u : Int) a 32 : Nat)) : Int)
                  rw [← HSM.out, ← HCN.out]
                  go_num
          · obtain rfl : u = 7 := by omega
            have t5 : decide (((7 : Nat) : Int) ≤ 6) = false := by decide
            rw [HSA.out]
            go_wp2_with fail
            refine (poolAnswers_any _).mono ?_
            rintro e w6 ⟨rfl, hb⟩
            go_wp2
            go_ret
            exact ⟨rfl, H5.out.bel.trans (hb.mono H5.out.bel.size)⟩
      · have HCT := Lib.hid (fun (v : Int) => show countP p s v = 0 from by
          unfold countP
          rw [if_neg hs])
        have hsg : decide (0 ≤ s) = false ∨ (decide (0 ≤ s) = true ∧ decide (s < 32) = false) := by
          by_cases c0 : 0 ≤ s
          · exact .inr ⟨decide_eq_true c0, decide_eq_false (by omega)⟩
          · exact .inl (decide_eq_false c0)
        have hsx : decide (s < 0) = true ∨ (decide (s < 0) = false ∧ decide (31 < s) = true) := by
          by_cases c0 : s < 0
          · exact .inl (decide_eq_true c0)
          · exact .inr ⟨decide_eq_false c0, decide_eq_true (by omega)⟩
        have HSX := Lib.hid hsx
        have HSG := Lib.hid hsg
        clear hs hsx hsg
        go_wp2_with fail
        go_loopg [8, 9] 7 (fun gg s8 s9 wx => ∃ u : Nat, u + gg = 7 ∧ s9 = .int .i64 (u : Int) ∧ s8 = .int .i64 0 ∧ Two w wx gS w1.heap.size p p)
        case atStart => exact ⟨0, by omega, rfl, rfl, H3.out⟩
        case round =>
          obtain ⟨u, hug, rfl, rfl, h5⟩ := hrel
          have H5 := Lib.hid h5
          clear h5
          by_cases hu : u ≤ 6
          · have t5 : decide ((u : Int) ≤ 6) = true := decide_eq_true (by omega)
            obtain ⟨G2, rfl⟩ : ∃ G2, G2 = gk := ⟨_, rfl⟩
            obtain ⟨W5, rfl⟩ : ∃ W5, W5 = wr := ⟨_, rfl⟩
            have CC := Lib.hid (two_count (w' := W5) s (u : Int) H5.out)
            rw [HCT.out] at CC
            go_wp2_with fail
            go_loopg [10, 11] 0 (fun gg s10 s11 wx => s10 = .int .i64 0 ∧ (∃ F : Int, s11 = .int .i64 F) ∧ wx = W5)
            case atStart => exact ⟨rfl, ⟨_, rfl⟩, rfl⟩
            case round =>
              obtain ⟨rfl, ⟨F, rfl⟩, hw⟩ := hrel
              obtain rfl : W5 = wr := hw.symm
              rcases HSG.out with d0 | ⟨d0, d1⟩
              all_goals
                go_wp2_with fail
                refine CC.out.mono ?_
                rintro e w6 ⟨rfl, hb6⟩
                have H6 := Lib.hid (H5.out.fresh hb6)
                clear hb6
                go_wp2_with fail
                go_roundg (7 - (u + 1))
                case measure => omega
                case rel => exact ⟨u + 1, by omega, by go_num, rfl, H6.out⟩
          · obtain rfl : u = 7 := by omega
            have t5 : decide (((7 : Nat) : Int) ≤ 6) = false := by decide
            go_wp2_with fail
            refine (poolAnswers_any _).mono ?_
            rintro e w6 ⟨rfl, hb⟩
            rcases HSX.out with d0 | ⟨d0, d1⟩
            all_goals
              go_wp2
              go_ret
              exact ⟨rfl, H5.out.bel.trans (hb.mono H5.out.bel.size)⟩
end Go.Proofs.Ytkpjimpjopbdkaa
