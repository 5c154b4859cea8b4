/-
  PoolPlays answers true: whatever happens, a pool and the document's own have the same.
  Conditions: the acts are read in memory.
-/
import Derived.Test.YtkpjimpjopbdkaaPooD
import Derived.Deep.LoopGhost
namespace Go.Proofs.Ytkpjimpjopbdkaa
open Go.RowKit
set_option linter.unusedVariables false
attribute [local irreducible] ps0 badU spanU

section
variable {w0 w w' : World} {gS gV : Nat} {p q : PS}
theorem two_use (f : Int) (h : Two w0 w gS gV p q) :
    Calls Try.prog 20 #[.pointer (some ⟨gS, 0, none⟩), .int .i64 f] w fun e w' => e = .returned (.int .i64 ((useP p f : Nat) : Int)) ∧ Below w.heap.size w w' := by
  obtain ⟨K, h1, _⟩ := h
  exact pool_use gS K p f w h1
theorem two_zone (s : Int) (h : Two w0 w gS gV p q) :
    Calls Try.prog 21 #[.pointer (some ⟨gS, 0, none⟩), .int .i64 s] w fun e w' => e = .returned (.int .i64 ((zoneP p s : Nat) : Int)) ∧ Below w.heap.size w w' := by
  obtain ⟨K, h1, _⟩ := h
  exact pool_zone gS K p s w h1
theorem Two.ref (h : Two w0 w gS gV p q) : RefP w gV q := by
  obtain ⟨K, _, h, _⟩ := h
  exact h
end

set_option maxRecDepth 20000 in
set_option maxHeartbeats 3200000 in
theorem same10_any (w0 w : World) (gS gV : Nat) (p : PS) (h : Two w0 w gS gV p p) :
    Calls Try.prog 12 #[.pointer (some ⟨gS, 0, none⟩), .pointer (some ⟨gV, 0, none⟩)] w fun e w' => e = .returned (.bool true) ∧ Two w0 w' gS gV p p := by
  have H := Lib.hid h
  clear h
  go_enter Try.func12, Try.ntmps12
  go_wp2_with fail
  go_loopg [5] 1024 (fun gg s5 wx => ∃ f : Nat, f + gg = 1024 ∧ s5 = .int .i64 (f : Int) ∧ Two w0 wx gS gV p p)
  case atStart => exact ⟨0, by omega, rfl, H.out⟩
  case round =>
    obtain ⟨f, hfg, rfl, h1⟩ := hrel
    have H1 := Lib.hid h1
    by_cases hlt : f < 1024
    · have t1 : decide ((f : Int) < 1024) = true := decide_eq_true (by omega)
      have t2 : (0 : Int) ≤ (f : Int) := by omega
      have t3 : (f : Int) < 1024 := by omega
      obtain ⟨y, hy⟩ : ∃ y, y = p.u.getD f 0 := ⟨_, rfl⟩
      have hcu : wr.cell? ⟨gV, f, none⟩ = some (.int .i64 (y : Int)) := by rw [hy]; exact h1.ref.cu hlt
      have hgl : gV < wr.heap.size := h1.ref.1.lt
      have KP := Lib.hid (fun (W : World) (hW : Below wr.heap.size wr W) => (⟨(hW.cell (p := ⟨gV, f, none⟩) hgl).trans hcu, hW⟩ : W.cell? ⟨gV, f, none⟩ = some (.int .i64 (y : Int)) ∧ Below wr.heap.size wr W))
      have US := Lib.hid (fun (W : World) (hW : Below wr.heap.size wr W) => ((two_use (f : Int) (h1.fresh hW)).mono (fun e w' h => ⟨by rw [h.1, useP_in p hlt, ← hy], hW.trans (h.2.mono hW.size)⟩) : Calls Try.prog 20 #[.pointer (some ⟨gS, 0, none⟩), .int .i64 (f : Int)] W fun e w' => e = .returned (.int .i64 (y : Int)) ∧ Below wr.heap.size wr w'))
      have HCU := Lib.hid hcu
      have BR := Lib.hid (Below.refl wr.heap.size wr)
      clear h1 hy hcu hgl
      go_wp2_with fail
      go_region_held3 (fun w' => w'.cell? ⟨gV, f, none⟩ = some (.int .i64 (y : Int)) ∧ Below wr.heap.size wr w')
        (first | assumption | exact KP.out _ BR.out.drew | exact KP.out _ (by assumption))
        ((go_at_call 20; refine (US.out _ ?_).mono ?_; (first | assumption | exact (And.right (by assumption))); rintro e w' ⟨rfl, hls⟩))
      have H2 := Lib.hid (H1.out.fresh hls)
      have e1 : ((y : Int) != (y : Int)) = false := by simp
      clear hls
      go_wp2_with fail
      go_roundg (1024 - (f + 1))
      case measure => omega
      case rel => exact ⟨f + 1, by omega, by go_num, H2.out⟩
    · obtain rfl : f = 1024 := by omega
      clear h1
      obtain ⟨G, rfl⟩ : ∃ G, G = gk := ⟨_, rfl⟩
      obtain ⟨W0, rfl⟩ : ∃ W0, W0 = wr := ⟨_, rfl⟩
      go_wp2_with fail
      go_loopg [6] 32 (fun gg s6 wx => ∃ f : Nat, f + gg = 32 ∧ s6 = .int .i64 (f : Int) ∧ Two w0 wx gS gV p p)
      case atStart => exact ⟨0, by omega, rfl, H1.out⟩
      case round =>
        obtain ⟨f, hfg, rfl, h1⟩ := hrel
        have H3 := Lib.hid h1
        by_cases hlt : f < 32
        · have t1 : decide ((f : Int) < 32) = true := decide_eq_true (by omega)
          have t2 : (0 : Int) ≤ (f : Int) := by omega
          have t3 : (f : Int) < 32 := by omega
          obtain ⟨y, hy⟩ : ∃ y, y = p.z.getD f 0 := ⟨_, rfl⟩
          have hcu : wr.cell? ⟨gV, 1024 + f, none⟩ = some (.int .i64 (y : Int)) := by rw [hy]; exact h1.ref.cz hlt
          have hgl : gV < wr.heap.size := h1.ref.1.lt
          have KP := Lib.hid (fun (W : World) (hW : Below wr.heap.size wr W) => (⟨(hW.cell (p := ⟨gV, 1024 + f, none⟩) hgl).trans hcu, hW⟩ : W.cell? ⟨gV, 1024 + f, none⟩ = some (.int .i64 (y : Int)) ∧ Below wr.heap.size wr W))
          have US := Lib.hid (fun (W : World) (hW : Below wr.heap.size wr W) => ((two_zone (f : Int) (h1.fresh hW)).mono (fun e w' h => ⟨by rw [h.1, zoneP_in p hlt, ← hy], hW.trans (h.2.mono hW.size)⟩) : Calls Try.prog 21 #[.pointer (some ⟨gS, 0, none⟩), .int .i64 (f : Int)] W fun e w' => e = .returned (.int .i64 (y : Int)) ∧ Below wr.heap.size wr w'))
          have HCU := Lib.hid hcu
          have BR := Lib.hid (Below.refl wr.heap.size wr)
          clear h1 hy hcu hgl
          go_wp2_with fail
          go_region_held3 (fun w' => w'.cell? ⟨gV, 1024 + f, none⟩ = some (.int .i64 (y : Int)) ∧ Below wr.heap.size wr w')
            (first | assumption | exact KP.out _ BR.out.drew | exact KP.out _ (by assumption))
            ((go_at_call 21; refine (US.out _ ?_).mono ?_; (first | assumption | exact (And.right (by assumption))); rintro e w' ⟨rfl, hls⟩))
          have H4 := Lib.hid (H3.out.fresh hls)
          have e1 : ((y : Int) != (y : Int)) = false := by simp
          clear hls
          go_wp2_with fail
          go_roundg (32 - (f + 1))
          case measure => omega
          case rel => exact ⟨f + 1, by omega, by go_num, H4.out⟩
        · obtain rfl : f = 32 := by omega
          clear h1
          go_wp2
          go_ret
          exact ⟨rfl, H3.out⟩

theorem Try.zeroPool : (Try.prog.info? 31).map (fun i => i.zero) = some (some (.agg (refL ps0).toArray)) := by kernel_rfl
theorem zero_pool : ∃ Z : Array Value, Z = (refL ps0).toArray ∧ ∀ w, (zeroValue 31).run Try.prog w = .ok (.agg Z) w := by
  refine ⟨_, rfl, fun w => ?_⟩
  have h := Try.zeroPool
  cases hq : Try.prog.info? 31 with
  | none => rw [hq] at h; cases h
  | some i =>
    rw [hq] at h
    simp only [Option.map_some, Option.some.injEq] at h
    simp [zeroValue, typeInfo, hq, h]

/-! ### PoolPlays -/
set_option maxRecDepth 20000 in
set_option maxHeartbeats 400000 in
theorem poolPlays_edge (A : Option Addr) (l c : Nat) (w : World) (h : 80 < l) :
    Calls Try.prog 3 #[.slice A l c] w fun e w' => e = .returned (.bool true) ∧ Below w.heap.size w w' := by
  have t1 : decide ((80 : Int) < (l : Int)) = true := decide_eq_true (by omega)
  clear h
  go_enter Try.func3, Try.ntmps3
  go_wp2_with fail
  refine (poolAnswers_any _).mono ?_
  rintro e w1 ⟨rfl, hb⟩
  go_wp2
  go_ret
  exact ⟨rfl, hb⟩
set_option maxRecDepth 20000 in
set_option maxHeartbeats 3200000 in
theorem poolPlays_any (v0 : Value) (acts : List Act10) (w : World) (h0 : Acts10 w v0 acts) (hl : acts.length ≤ 80) :
    Calls Try.prog 3 #[v0] w fun e w' => e = .returned (.bool true) ∧ Below w.heap.size w w' := by
  obtain ⟨A, N, c, rfl, hN, hm, hz⟩ := h0
  have HZ := Lib.hid hz
  have HN := Lib.hid hN
  have hN80 : N ≤ 80 := by omega
  have t1 : decide ((80 : Int) < (N : Int)) = false := decide_eq_false (by omega)
  obtain ⟨Z, hZ, hzr⟩ := zero_pool
  have HZZ := Lib.hid hZ
  clear hl hN hm hz hZ
  go_enter Try.func3, Try.ntmps3
  go_wp2_with fail
  refine (pool_new w).mono ?_
  rintro e w1 ⟨gS, K, rfl, hm1, hk1, hb1⟩
  have H2 := Lib.hid (show Two w (w1.alloc (.cells Z 31)) gS w1.heap.size ps0 ps0 from by
    have hb := (Below.refl w1.heap.size w1).alloc (Nat.le_refl _) (.cells Z 31)
    refine ⟨K, hm1.fresh hb, ⟨?_, ps0_ok⟩, hk1, hb1.size, fun h => by have := hm1.lt _ h; omega, hb1.trans (hb.mono hb1.size)⟩
    rw [← HZZ.out]
    exact Blk.new w1 _ _)
  clear hm1 hk1 hb1
  go_wp2_with fail
  go_loopg [5] N (fun gg s5 wx => ∃ (i : Nat) (p : PS), i + gg = N ∧ s5 = .int .i64 (i : Int) ∧ Two w wx gS w1.heap.size p p)
  case atStart => exact ⟨0, ps0, by omega, rfl, H2.out⟩
  case round =>
    obtain ⟨i, p, hig, rfl, h3⟩ := hrel
    have H3 := Lib.hid h3
    clear h3
    by_cases hlt : i < N
    · have t4 : decide ((i : Int) < (N : Int)) = true := decide_eq_true (by omega)
      have t5 : (i : Int) < (N : Int) := by omega
      have t6 : (0 : Int) ≤ (i : Int) := by omega
      obtain ⟨b1, o1, rfl, hpa⟩ := HZ.out (by omega)
      obtain ⟨ac, hac⟩ : ∃ ac, acts[i]? = some ac := ⟨_, List.getElem?_eq_getElem (by rw [HN.out]; exact hlt)⟩
      obtain ⟨hbl, c0, c1, c2, c3, c4, hits⟩ := hpa i ac hac
      have HI := Lib.hid hits
      obtain ⟨what, a, b, on, vv, bs⟩ := ac
      simp only at c0 c1 c2 c3 c4 hits
      obtain ⟨Av, nv, cv, rfl, hnv, -⟩ := hits
      have d0 : wr.cell? ⟨b1, o1 + i * 5, none⟩ = some (.int .i64 what) := (H3.out.bel.cell hbl).trans c0
      have d1 : wr.cell? ⟨b1, o1 + i * 5 + 1, none⟩ = some (.int .i64 a) := (H3.out.bel.cell hbl).trans c1
      have d2 : wr.cell? ⟨b1, o1 + i * 5 + 2, none⟩ = some (.int .i64 b) := (H3.out.bel.cell hbl).trans c2
      have d3 : wr.cell? ⟨b1, o1 + i * 5 + 3, none⟩ = some (.bool on) := (H3.out.bel.cell hbl).trans c3
      have d4 : wr.cell? ⟨b1, o1 + i * 5 + 4, none⟩ = some (.slice Av nv cv) := (H3.out.bel.cell hbl).trans c4
      clear c0 c1 c2 c3 c4 hpa hac
      by_cases hn : nv ≤ 100
      · have s1 : decide ((nv : Int) ≤ 100) = true := decide_eq_true (by omega)
        have DO := Lib.hid (do_any w wr gS w1.heap.size p ⟨what, a, b, on, .slice Av nv cv, bs⟩ H3.out HI.out (by show bs.length ≤ 100; omega))
        clear hnv hn
        go_wp2_with fail
        refine DO.out.mono ?_
        rintro e w4 ⟨p', rfl, h4⟩
        have H4 := Lib.hid h4
        clear h4
        go_wp2_with fail
        go_roundg (N - (i + 1))
        case measure => omega
        case rel => exact ⟨i + 1, p', by omega, by go_num, H4.out⟩
      · have s1 : decide ((nv : Int) ≤ 100) = false := decide_eq_false (by omega)
        clear hnv hn
        go_wp2_with fail
        go_roundg (N - (i + 1))
        case measure => omega
        case rel => exact ⟨i + 1, p, by omega, by go_num, H3.out⟩
    · obtain rfl : i = N := by omega
      have t4 : decide ((i : Int) < (i : Int)) = false := decide_eq_false (by omega)
      go_wp2_with fail
      refine (poolAnswers_any _).mono ?_
      rintro e w4 ⟨rfl, hb⟩
      have SM := Lib.hid (same10_any w w4 gS w1.heap.size p (H3.out.fresh hb))
      clear hb
      go_wp2_with fail
      refine SM.out.mono ?_
      rintro e w5 ⟨rfl, h5⟩
      have H5 := Lib.hid h5.bel
      clear h5
      go_wp2
      go_ret
      exact ⟨rfl, H5.out⟩
end Go.Proofs.Ytkpjimpjopbdkaa
