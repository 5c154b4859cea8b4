/-
  The contracts of a pool's New, Zone, Use, Count, Spoil, Free and Isolate.
  Conditions: those that each line bears.
-/
import Derived.Test.YtegoookllckhiaaPoA
namespace Go.Proofs.Ytegoookllckhiaa
open Go.RowKit
set_option linter.unusedVariables false

set_option maxRecDepth 20000
set_option maxHeartbeats 800000
theorem pool_zone_at (g : Nat) (p : PS) (s : Int) (w : World) (h : PoolAt w g p) :
    Calls Try.prog 44 #[.pointer (some ⟨g, 0, none⟩), .int .i64 s] w fun e w' => e = .returned (.int .i64 ((zoneP p s : Nat) : Int)) ∧ w = w' := by
  have HS := Lib.hid (hasSect_any g s w)
  by_cases hs : 0 ≤ s ∧ s < 32
  · rw [decide_eq_true hs] at HS
    obtain ⟨k, rfl⟩ := Int.eq_ofNat_of_zero_le hs.1
    have hk : k < 32 := by omega
    have hcz := h.cz hk
    rw [zoneP_in p hk]
    obtain ⟨z, hz⟩ : ∃ z : Nat, z = p.z.getD k 0 := ⟨_, rfl⟩
    rw [← hz] at hcz ⊢
    rw [show 1024 + 2 * k = 1024 + k * 2 by omega] at hcz
    have hk0 : (0 : Int) ≤ (k : Int) := by omega
    have hk1 : (k : Int) < 32 := by omega
    clear h hz hs
    go_enter Try.func44, Try.ntmps44
    go_wp2_with (go_at_call 43; refine HS.out.mono ?_; rintro e w' ⟨rfl, rfl⟩)
    go_ret
    exact ⟨rfl, rfl⟩
  · rw [decide_eq_false hs] at HS
    rw [show zoneP p s = 0 from if_neg hs]
    clear h hs
    go_enter Try.func44, Try.ntmps44
    go_wp2_with (go_at_call 43; refine HS.out.mono ?_; rintro e w' ⟨rfl, rfl⟩)
    go_ret
    exact ⟨rfl, rfl⟩
theorem pool_zone_nil (s : Int) (w : World) : Calls Try.prog 44 #[.pointer none, .int .i64 s] w fun e w' => e = .returned (.int .i64 0) ∧ w = w' := by
  have HS := Lib.hid (hasSect_nil s w)
  go_enter Try.func44, Try.ntmps44
  go_wp2_with (go_at_call 43; refine HS.out.mono ?_; rintro e w' ⟨rfl, rfl⟩)
  go_ret
  exact ⟨rfl, rfl⟩
theorem pool_use_at (g : Nat) (p : PS) (f : Int) (w : World) (h : PoolAt w g p) :
    Calls Try.prog 17 #[.pointer (some ⟨g, 0, none⟩), .int .i64 f] w fun e w' => e = .returned (.int .i64 ((useP p f : Nat) : Int)) ∧ w = w' := by
  have HS := Lib.hid (hasFrame_any g f w)
  by_cases hs : 0 ≤ f ∧ f < 1024
  · rw [decide_eq_true hs] at HS
    obtain ⟨k, rfl⟩ := Int.eq_ofNat_of_zero_le hs.1
    have hk : k < 1024 := by omega
    have hcz := h.cu hk
    rw [useP_in p hk]
    obtain ⟨z, hz⟩ : ∃ z : Nat, z = p.u.getD k 0 := ⟨_, rfl⟩
    rw [← hz] at hcz ⊢
    have hk0 : (0 : Int) ≤ (k : Int) := by omega
    have hk1 : (k : Int) < 1024 := by omega
    clear h hz hs
    go_enter Try.func17, Try.ntmps17
    go_wp2_with (go_at_call 37; refine HS.out.mono ?_; rintro e w' ⟨rfl, rfl⟩)
    go_ret
    exact ⟨rfl, rfl⟩
  · rw [decide_eq_false hs] at HS
    rw [show useP p f = 0 from if_neg hs]
    clear h hs
    go_enter Try.func17, Try.ntmps17
    go_wp2_with (go_at_call 37; refine HS.out.mono ?_; rintro e w' ⟨rfl, rfl⟩)
    go_ret
    exact ⟨rfl, rfl⟩
theorem pool_use_nil (f : Int) (w : World) : Calls Try.prog 17 #[.pointer none, .int .i64 f] w fun e w' => e = .returned (.int .i64 0) ∧ w = w' := by
  have HS := Lib.hid (hasFrame_nil f w)
  go_enter Try.func17, Try.ntmps17
  go_wp2_with (go_at_call 37; refine HS.out.mono ?_; rintro e w' ⟨rfl, rfl⟩)
  go_ret
  exact ⟨rfl, rfl⟩
theorem pool_count_at (g : Nat) (p : PS) (s v : Int) (w : World) (h : PoolAt w g p) :
    Calls Try.prog 27 #[.pointer (some ⟨g, 0, none⟩), .int .i64 s, .int .i64 v] w fun e w' => e = .returned (.int .i64 ((countP p s v : Nat) : Int)) ∧ Below w.heap.size w w' := by
  have OF := Lib.hid (of_any g p s v w h)
  have HL := Lib.hid (ofP_length p s v)
  clear h
  go_enter Try.func27, Try.ntmps27
  go_wp2_with fail
  refine OF.out.mono ?_
  rintro e w' ⟨x, rfl, hi, ho, hb⟩
  obtain ⟨A, N, c, rfl, hN, -⟩ := hi
  have HN := Lib.hid (show countP p s v = N from HL.out.symm.trans hN)
  have HB := Lib.hid hb
  clear hN hb ho
  go_wp2
  go_ret
  refine ⟨?_, HB.out⟩
  rw [HN.out]
  rfl
theorem pool_count_nil (s v : Int) (w : World) : Calls Try.prog 27 #[.pointer none, .int .i64 s, .int .i64 v] w fun e w' => e = .returned (.int .i64 0) ∧ w = w' := by
  have OF := Lib.hid (of_nil s v w)
  go_enter Try.func27, Try.ntmps27
  go_wp2_with fail
  refine OF.out.mono ?_
  rintro e w' ⟨rfl, rfl⟩
  go_wp2
  go_ret
  exact ⟨rfl, rfl⟩
/-- One frame's use, by way of a slice of one that is built there. -/
theorem give_one (g : Nat) (p : PS) (x k : Nat) (w : World) (h : PoolAt w g p) (hx : x ≤ 6) (hk : k < 1024) :
    Calls Try.prog 40 #[.pointer (some ⟨g, 0, none⟩), .int .i64 (x : Int), .slice (some ⟨w.heap.size, 0, none⟩) 1 1] (w.alloc (.cells #[Value.int .i64 (k : Int)] 3)) fun e w' => e = .returned (.tuple #[]) ∧ PoolAt w' g ⟨p.u.set k x, p.z, p.i⟩ ∧ Turns (fun j => j = g) w w' := by
  have hw : Below w.heap.size w (w.alloc (.cells #[Value.int .i64 (k : Int)] 3)) := (Below.refl _ _).alloc (Nat.le_refl _) _
  have hb : Blk (w.alloc (.cells #[Value.int .i64 (k : Int)] 3)) w.heap.size 3 #[Value.int .i64 (k : Int)] := Blk.new w _ _
  have hit : Its (w.alloc (.cells #[Value.int .i64 (k : Int)] 3)) (w.alloc (.cells #[Value.int .i64 (k : Int)] 3)).heap.size (.slice (some ⟨w.heap.size, 0, none⟩) 1 1) [(k : Int)] := Its.of_lit (xs := [(k : Int)]) hb (by simp [maxLen])
  refine (give_any g p x _ [(k : Int)] _ (h.below hw h.lt) hx hit (fun b o sp n c e hn hk2 => ?_) (fun f hf => ?_)).mono ?_
  · injection e with e
    injection e with e
    injection e with e
    have := h.lt
    omega
  · rw [List.mem_singleton.1 hf]; omega
  · rintro e w' ⟨rfl, h1, h2⟩
    refine ⟨rfl, ?_, (Turns.of_below hw (Nat.le_refl _)).trans h2⟩
    have : giveU p.u x [(k : Int)] = p.u.set k x := by show p.u.set ((k : Int)).toNat x = _; rw [Int.toNat_natCast]
    rw [← this]
    exact h1
theorem pool_spoil_at (g : Nat) (p : PS) (f : Int) (w : World) (h : PoolAt w g p) :
    Calls Try.prog 19 #[.pointer (some ⟨g, 0, none⟩), .int .i64 f] w fun e w' => e = .returned (.bool (spoilP p f).1) ∧ PoolAt w' g (spoilP p f).2 ∧ Turns (fun j => j = g) w w' := by
  have HS := Lib.hid (hasFrame_any g f w)
  have HP := Lib.hid h
  by_cases hs : 0 ≤ f ∧ f < 1024
  · rw [decide_eq_true hs] at HS
    obtain ⟨k, rfl⟩ := Int.eq_ofNat_of_zero_le hs.1
    have hk : k < 1024 := by omega
    have hcz := h.cu hk
    obtain ⟨z, hz⟩ : ∃ z : Nat, z = p.u.getD k 0 := ⟨_, rfl⟩
    have hu := useP_in p hk
    rw [← hz] at hcz hu
    have hk0 : (0 : Int) ≤ (k : Int) := by omega
    have hk1 : (k : Int) < 1024 := by omega
    by_cases h6 : z = 6
    · rw [show spoilP p (k : Int) = (false, p) from if_neg (by omega)]
      have d1 : ((z : Int) == 6) = true := by simp [h6]
      clear h hz hs hu h6
      go_enter Try.func19, Try.ntmps19
      go_wp2_with (go_at_call 37; refine HS.out.mono ?_; rintro e w' ⟨rfl, rfl⟩)
      go_ret
      exact ⟨rfl, HP.out, Turns.refl _ _⟩
    · rw [show spoilP p (k : Int) = (true, ⟨p.u.set ((k : Int)).toNat 6, p.z, p.i⟩) from if_pos ⟨hs, by omega⟩, Int.toNat_natCast]
      have d1 : ((z : Int) == 6) = false := by simp; omega
      have GV := Lib.hid (give_one g p 6 k w h (by omega) hk)
      clear h hz hs hu h6
      go_enter Try.func19, Try.ntmps19
      go_wp2_with (go_at_call 37; refine HS.out.mono ?_; rintro e w' ⟨rfl, rfl⟩)
      refine GV.out.mono ?_
      rintro e w' ⟨rfl, h1, h2⟩
      have H1 := Lib.hid h1
      have H2 := Lib.hid h2
      clear h1 h2
      go_wp2
      go_ret
      exact ⟨rfl, H1.out, H2.out⟩
  · rw [decide_eq_false hs] at HS
    rw [show spoilP p f = (false, p) from if_neg (fun h => hs h.1)]
    clear h hs
    go_enter Try.func19, Try.ntmps19
    go_wp2_with (go_at_call 37; refine HS.out.mono ?_; rintro e w' ⟨rfl, rfl⟩)
    go_ret
    exact ⟨rfl, HP.out, Turns.refl _ _⟩
theorem pool_spoil_nil (f : Int) (w : World) : Calls Try.prog 19 #[.pointer none, .int .i64 f] w fun e w' => e = .returned (.bool false) ∧ w = w' := by
  have HS := Lib.hid (hasFrame_nil f w)
  go_enter Try.func19, Try.ntmps19
  go_wp2_with (go_at_call 37; refine HS.out.mono ?_; rintro e w' ⟨rfl, rfl⟩)
  go_ret
  exact ⟨rfl, rfl⟩
theorem pool_free_at (g : Nat) (p : PS) (f : Int) (w : World) (h : PoolAt w g p) :
    Calls Try.prog 59 #[.pointer (some ⟨g, 0, none⟩), .int .i64 f] w fun e w' => e = .returned (.bool (freeP p f).1) ∧ PoolAt w' g (freeP p f).2 ∧ Turns (fun j => j = g) w w' := by
  have US := Lib.hid (pool_use_at g p f w h)
  have HP := Lib.hid h
  obtain ⟨z, hz⟩ : ∃ z : Nat, z = useP p f := ⟨_, rfl⟩
  rw [← hz] at US
  have MG := Lib.hid (mayGive_any (z : Int) w)
  by_cases hm : 2 ≤ z ∧ z ≤ 5
  · have hin : 0 ≤ f ∧ f < 1024 := by
      unfold useP at hz
      by_cases c : 0 ≤ f ∧ f < 1024
      · exact c
      · rw [if_neg c] at hz; omega
    obtain ⟨k, rfl⟩ := Int.eq_ofNat_of_zero_le hin.1
    have hk : k < 1024 := by omega
    rw [decide_eq_true (show 2 ≤ (z : Int) ∧ (z : Int) ≤ 5 from by omega)] at MG
    rw [show freeP p (k : Int) = (true, ⟨p.u.set ((k : Int)).toNat 1, p.z, p.i⟩) from if_pos (by rw [← hz]; exact hm), Int.toNat_natCast]
    have GV := Lib.hid (give_one g p 1 k w h (by omega) hk)
    clear h hz hm hin
    go_enter Try.func59, Try.ntmps59
    go_wp2_with (first | (go_at_call 17; refine US.out.mono ?_; rintro e w' ⟨rfl, rfl⟩) | (go_at_call 64; refine MG.out.mono ?_; rintro e w' ⟨rfl, rfl⟩))
    refine GV.out.mono ?_
    rintro e w' ⟨rfl, h1, h2⟩
    have H1 := Lib.hid h1
    have H2 := Lib.hid h2
    clear h1 h2
    go_wp2
    go_ret
    exact ⟨rfl, H1.out, H2.out⟩
  · rw [decide_eq_false (show ¬ (2 ≤ (z : Int) ∧ (z : Int) ≤ 5) from by omega)] at MG
    rw [show freeP p f = (false, p) from if_neg (by rw [← hz]; exact hm)]
    clear h hz hm
    go_enter Try.func59, Try.ntmps59
    go_wp2_with (first | (go_at_call 17; refine US.out.mono ?_; rintro e w' ⟨rfl, rfl⟩) | (go_at_call 64; refine MG.out.mono ?_; rintro e w' ⟨rfl, rfl⟩))
    go_ret
    exact ⟨rfl, HP.out, Turns.refl _ _⟩
theorem pool_free_nil (f : Int) (w : World) : Calls Try.prog 59 #[.pointer none, .int .i64 f] w fun e w' => e = .returned (.bool false) ∧ w = w' := by
  have US := Lib.hid (pool_use_nil f w)
  have MG := Lib.hid (mayGive_any 0 w)
  rw [decide_eq_false (show ¬ (2 ≤ (0 : Int) ∧ (0 : Int) ≤ 5) from by omega)] at MG
  go_enter Try.func59, Try.ntmps59
  go_wp2_with (first | (go_at_call 17; refine US.out.mono ?_; rintro e w' ⟨rfl, rfl⟩) | (go_at_call 64; refine MG.out.mono ?_; rintro e w' ⟨rfl, rfl⟩))
  go_ret
  exact ⟨rfl, rfl⟩
end Go.Proofs.Ytegoookllckhiaa
