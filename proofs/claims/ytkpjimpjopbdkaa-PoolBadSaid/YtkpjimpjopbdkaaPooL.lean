/-
  PoolNone, and the short play that every statement of the pool ends with.
  Conditions: none beside the pool's contracts.
-/
import Derived.Test.YtkpjimpjopbdkaaPooI
import Derived.Test.YtkpjimpjopbdkaaRefB
import Derived.Deep.LoopGhost
import Derived.BigQuiet
namespace Go.Proofs.Ytkpjimpjopbdkaa
open Go.RowKit
set_option linter.unusedVariables false

def P1 : PS := ⟨badU 1 (spanU freshG ps0.u (32 * 1) (32 * 1 + 32)) [32], ps0.z.set 1 2, ps0.i.set 1 false⟩
def P2 : PS := ⟨spanU (fun _ => 3) P1.u 33 34, P1.z, P1.i⟩
theorem repl_getD (n f : Nat) : (List.replicate n 0).getD f 0 = 0 := by
  rw [List.getD_eq_getElem?_getD, List.getElem?_replicate]
  split <;> rfl
theorem ps0_ue : ps0.u = List.replicate 1024 0 := by rw [ps0]
theorem ps0_ze : ps0.z = List.replicate 32 0 := by rw [ps0]
theorem ps0_u (f : Nat) : ps0.u.getD f 0 = 0 := by rw [ps0_ue]; exact repl_getD _ _
theorem ps0_z (f : Nat) : ps0.z.getD f 0 = 0 := by rw [ps0_ze]; exact repl_getD _ _
theorem ps0_ul : ps0.u.length = 1024 := by rw [ps0_ue]; exact List.length_replicate
theorem p1_ue : P1.u = badU 1 (spanU freshG ps0.u (32 * 1) (32 * 1 + 32)) [32] := by rw [P1]
theorem p1_ze : P1.z = ps0.z.set 1 2 := by rw [P1]
theorem p1_is : onP ps0 1 2 [32] = (0, P1) := by
  have := onP_new (p := ps0) (s := 1) (z := 2) (bs := [32]) (by omega) (by omega) (ps0_z 1)
  rw [P1]
  exact this
theorem p1_ul : P1.u.length = 1024 := by rw [p1_ue, badU_length, spanU_length, ps0_ul]
theorem p1_u (f : Nat) (hf : f < 1024) : P1.u.getD f 0 = if f = 32 then 6 else if 32 ≤ f ∧ f < 64 then 1 else 0 := by
  rw [p1_ue, badU_getD _ _ _ _ (by rw [spanU_length, ps0_ul]; exact hf), spanU_getD _ _ _ _ _ (by rw [ps0_ul]; exact hf), ps0_u f]
  by_cases c : f = 32
  · subst c; rfl
  · have : ¬ ((32 * 1 ≤ f ∧ f < 32 * 1 + 32) ∧ (f : Int) ∈ [(32 : Int)]) := by
      rintro ⟨_, h⟩
      rcases List.mem_cons.1 h with h | h
      · omega
      · cases h
    rw [if_neg c, if_neg this]
    rfl
theorem p1_zg (s : Nat) : P1.z.getD s 0 = if s = 1 then 2 else 0 := by
  rw [p1_ze]
  by_cases c : s = 1
  · subst c
    rw [if_pos rfl, getD_set_same _ _ _ _ (by rw [ps0_ze, List.length_replicate]; omega)]
  · rw [if_neg c, getD_set_ne _ _ _ _ _ c, ps0_z]
theorem p1_z3 (s : Nat) : P1.z.getD s 0 ≠ 3 := by
  rw [p1_zg]
  split <;> omega
theorem p1_z2 (s : Nat) (h : P1.z.getD s 0 = 2) : s = 1 := by
  rw [p1_zg] at h
  by_cases c : s = 1
  · exact c
  · rw [if_neg c] at h; omega
theorem p1_i (s : Nat) (hs : s < 32) : P1.i.getD s false = false := by
  have e : P1.i = ps0.i.set 1 false := by rw [P1]
  have e2 : ps0.i = List.replicate 32 false := by rw [ps0]
  rw [e, e2]
  have : ∀ s, s < 32 → ((List.replicate 32 false).set 1 false).getD s false = false := by decide
  exact this s hs
theorem p1_alloc {f e : Nat} {p' : PS} (h : AllocIs P1 3 0 true f e p') : f = 33 ∧ e = 0 ∧ p' = P2 := by
  refine h.uniq (allocIs_2 (u := 3) (o := 0) (f := 33) (m := true) (by omega) (by omega) (fun _ x hx => p1_z3 _ hx.2.2.1) ⟨rfl, by omega, by rw [p1_zg]; rfl, p1_i _ (by omega), fun k h1 h2 => ?_⟩ fun x hx hr => ?_)
  · obtain rfl : k = 33 := by have : k < 33 + 1 := h2; omega
    rw [p1_u _ (by omega)]; rfl
  · have h1 := p1_z2 _ hr.2.2.1
    obtain rfl : x = 32 := by omega
    have h2 := hr.2.2.2.2 32 (Nat.le_refl _) (by decide)
    rw [p1_u _ (by omega)] at h2
    cases h2
theorem p2_use (f : Nat) (hf : f < 1024) : useP P2 (f : Int) = if f = 33 then 3 else if f = 32 then 6 else if 32 ≤ f ∧ f < 64 then 1 else 0 := by
  rw [useP_in _ hf]
  rw [show P2.u = spanU (fun _ => 3) P1.u 33 34 from by rw [P2], spanU_getD _ _ _ _ _ (by rw [p1_ul]; exact hf), p1_u f hf]
  by_cases c : f = 33
  · rw [if_pos (by omega), if_pos c]
  · rw [if_neg (by omega), if_neg c]

set_option maxRecDepth 20000 in
set_option maxHeartbeats 800000 in
theorem poolAnswers_any (w : World) :
    Calls Try.prog 9 #[] w fun e w' => e = .returned (.bool true) ∧ Below w.heap.size w w' := by
  go_enter Try.func9, Try.ntmps9
  go_wp2_with fail
  refine (pool_new w).mono ?_
  rintro e w1 ⟨gS, K, rfl, hm1, hk1, hb1⟩
  have HM1 := Lib.hid hm1
  have HK1 := Lib.hid hk1
  have HB1 := Lib.hid hb1
  clear hm1 hk1 hb1
  have A2 := Lib.hid (show Below w1.heap.size w1 (w1.alloc (.cells #[.int .i64 32] 3)) from (Below.refl _ _).alloc (Nat.le_refl _) _)
  have HI2 := Lib.hid (show Its (w1.alloc (.cells #[.int .i64 32] 3)) (w1.alloc (.cells #[.int .i64 32] 3)).heap.size (.slice (some ⟨w1.heap.size, 0, none⟩) 1 1) [32] from Its.of_lit (xs := [32]) (Blk.new w1 _ _) (by simp [maxLen]))
  have HO2 := Lib.hid (show Off K (.slice (some ⟨w1.heap.size, 0, none⟩) 1 1) from fun b o s n c e _ hk => by
    injection e with e
    injection e with e
    injection e with e
    have := HM1.out.lt b hk
    omega)
  have HM2 := Lib.hid (HM1.out.fresh A2.out)
  go_wp2_with fail
  refine (pool_online gS K _ 1 2 _ [32] _ HM2.out HI2.out HO2.out).mono ?_
  rintro e w3 ⟨K3, rfl, hm3, hk3, ht3⟩
  rw [p1_is] at hm3 ⊢
  have HM3 := Lib.hid (show PoolMem w3 gS K3 P1 from hm3)
  have HB2 := Lib.hid (HB1.out.trans (A2.out.mono HB1.out.size))
  have HB3 := Lib.hid (HB2.out.trans (ht3.below HK1.out HB2.out.size))
  have HK3 := Lib.hid (show ∀ k, K3 k → w.heap.size ≤ k from fun k hk => (hk3 k hk).elim (HK1.out k) (fun h => Nat.le_trans HB2.out.size h))
  clear hm3 hk3 ht3
  go_wp2_with fail
  refine (pool_alloc gS K3 P1 3 0 true w3 HM3.out).mono ?_
  rintro e w4 ⟨f, er, p', ha, K4, rfl, hm4, hk4, ht4⟩
  obtain ⟨rfl, rfl, rfl⟩ := p1_alloc ha
  have HM4 := Lib.hid hm4
  have HB4 := Lib.hid (HB3.out.trans (ht4.below HK3.out HB3.out.size))
  clear ha hm4 hk4 ht4
  go_wp2_with fail
  refine (pool_use gS K4 P2 33 w4 HM4.out).mono ?_
  rintro e w5 ⟨rfl, hb5⟩
  rw [show useP P2 33 = 3 from p2_use 33 (by omega)]
  have HM5 := Lib.hid (HM4.out.fresh hb5)
  have HB5 := Lib.hid (HB4.out.trans (hb5.mono HB4.out.size))
  clear hb5
  go_wp2_with fail
  refine (pool_use gS K4 P2 32 w5 HM5.out).mono ?_
  rintro e w6 ⟨rfl, hb6⟩
  rw [show useP P2 32 = 6 from p2_use 32 (by omega)]
  have HM6 := Lib.hid (HM5.out.fresh hb6)
  have HB6 := Lib.hid (HB5.out.trans (hb6.mono HB5.out.size))
  clear hb6
  go_wp2_with fail
  refine (pool_zone gS K4 P2 1 w6 HM6.out).mono ?_
  rintro e w7 ⟨rfl, hb7⟩
  rw [show zoneP P2 1 = 2 from by rw [zoneP, if_pos ⟨by omega, by omega⟩, show P2.z = P1.z from by rw [P2], show (1 : Int).toNat = 1 from rfl, p1_zg]; rfl]
  have HB7 := Lib.hid (HB6.out.trans (hb7.mono HB6.out.size))
  clear hb7
  go_wp2
  go_ret
  exact ⟨by simp, HB7.out⟩

set_option maxRecDepth 20000 in
set_option maxHeartbeats 800000 in
theorem poolNone_any (s : Int) (w : World) :
    Calls Try.prog 6 #[.int .i64 s] w fun e w' => e = .returned (.bool true) ∧ Below w.heap.size w w' := by
  go_enter Try.func6, Try.ntmps6
  go_wp2_with fail
  refine (pool_alloc_nil 3 0 true w).mono ?_
  rintro e w1 ⟨rfl, rfl⟩
  go_wp2_with fail
  refine (poolAnswers_any w).mono ?_
  rintro e w1 ⟨rfl, hb⟩
  have HB := Lib.hid hb
  clear hb
  go_wp2_with fail
  refine (pool_online_nil s 2 (.slice none 0 0) [] w1 (Its.nil_ _ _)).mono ?_
  rintro e w2 ⟨rfl, rfl⟩
  go_wp2_with fail
  refine (pool_offline_nil s w1).mono ?_
  rintro e w2 ⟨rfl, rfl⟩
  go_wp2_with fail
  refine (pool_zone_nil s w1).mono ?_
  rintro e w2 ⟨rfl, rfl⟩
  go_wp2_with fail
  refine (pool_use_nil s w1).mono ?_
  rintro e w2 ⟨rfl, rfl⟩
  go_wp2_with fail
  refine (pool_count_nil s 0 w1).mono ?_
  rintro e w2 ⟨rfl, rfl⟩
  go_wp2_with fail
  refine (pool_free_nil s w1).mono ?_
  rintro e w2 ⟨rfl, rfl⟩
  go_wp2_with fail
  refine (pool_spoil_nil s w1).mono ?_
  rintro e w2 ⟨rfl, rfl⟩
  go_wp2_with fail
  refine (pool_isolate_nil s true w1).mono ?_
  rintro e w2 ⟨rfl, rfl⟩
  go_wp2
  go_ret
  exact ⟨rfl, HB.out⟩
end Go.Proofs.Ytkpjimpjopbdkaa
