/-
  RamCopies answers true for any bytes and any place, and writes nothing that was there.
  Conditions: the bytes are read in memory.
-/
import Derived.Test.YtlodeejeeldplaaRamAns
import Derived.Test.YtlodeejeeldplaaZeros
namespace Go.Proofs.Ytlodeejeeldplaa
open Go.RowKit
set_option linter.unusedVariables false

set_option maxHeartbeats 400000 in
theorem ramCopies_edge (A B : Option Addr) (l c k d : Nat) (a : Int) (w : World) (hl : l ≤ maxLen) (hk : k ≤ maxLen) (h : 64 < l ∨ k = 0 ∨ 8 < k) :
    Calls Try.prog 7 #[.slice A l c, .slice B k d, .int .u8 a] w fun e w' => e = .returned (.bool true) ∧ Below w.heap.size w w' := by
  unfold maxLen at hl hk
  by_cases h1 : 64 < l
  · have t1 : decide ((64 : Int) < (l : Int)) = true := by simp; omega
    clear h
    go_enter Try.func7, Try.ntmps7
    go_wp2_with fail
    refine (ramAnswers_any _).mono ?_
    rintro e w1 ⟨rfl, hb1⟩
    go_wp2
    go_ret
    exact ⟨rfl, hb1⟩
  · by_cases h2 : k = 0
    · have t1 : decide ((64 : Int) < (l : Int)) = false := by simp; omega
      have t2 : ((k : Int) == 0) = true := by rw [beq_iff_eq]; omega
      clear h h2
      go_enter Try.func7, Try.ntmps7
      go_wp2_with fail
      refine (ramAnswers_any _).mono ?_
      rintro e w1 ⟨rfl, hb1⟩
      go_wp2
      go_ret
      exact ⟨rfl, hb1⟩
    · have t1 : decide ((64 : Int) < (l : Int)) = false := by simp; omega
      have t2 : ((k : Int) == 0) = false := by rw [beq_eq_false_iff_ne]; omega
      have t3 : decide ((8 : Int) < (k : Int)) = true := by simp; omega
      clear h
      go_enter Try.func7, Try.ntmps7
      go_wp2_with fail
      refine (ramAnswers_any _).mono ?_
      rintro e w1 ⟨rfl, hb1⟩
      go_wp2
      go_ret
      exact ⟨rfl, hb1⟩

theorem over_zer (xs : List Nat) (h : xs.length ≤ 64) : over zer 0 xs = xs ++ List.replicate (64 - xs.length) 0 := by
  unfold over zer
  rw [List.take_zero, List.nil_append, Nat.zero_add, List.drop_replicate]
theorem win_all (F : List Nat) (h : F.length = 64) : win F 0 64 = F := by
  unfold win
  rw [List.drop_zero, List.take_of_length_le (by omega)]

set_option maxHeartbeats 800000 in
theorem ramCopies_any (v0 v1 : Value) (xs ys : List Nat) (a p : Nat) (w : World) (hv : Bts w w.heap.size v0 xs) (hw : Bts w w.heap.size v1 ys) (hl : xs.length ≤ 64) (hk : ys.length ≠ 0) (hk8 : ys.length ≤ 8) (ha : a < 256) (hp : a % 56 = p) :
    Calls Try.prog 7 #[v0, v1, .int .u8 (a : Int)] w fun e w' => e = .returned (.bool true) ∧ Below w.heap.size w w' := by
  have HV := Lib.hid hv
  have HW := Lib.hid hw
  obtain ⟨A0, l0, c0, rfl, e0, -⟩ := hv
  obtain ⟨A1, l1, c1, rfl, e1, -⟩ := hw
  have E0 := Lib.hid e0
  have E1 := Lib.hid e1
  rw [e0] at hl
  rw [e1] at hk hk8
  clear e0 e1
  have t1 : decide ((64 : Int) < (l0 : Int)) = false := by simp; omega
  have t2 : ((l1 : Int) == 0) = false := by rw [beq_eq_false_iff_ne]; omega
  have t3 : decide ((8 : Int) < (l1 : Int)) = false := by simp; omega
  have t4 : (0 : Int) ≤ (a : Int) % 56 := by omega
  have t5 : (a : Int) % 56 < 56 := by omega
  have t6 : (0 : Int) ≤ 64 - (l0 : Int) := by omega
  have HP : Hid ((a : Int) % 56 = (p : Int)) := show _ = _ by omega
  have hp56 : p < 56 := by omega
  clear hp
  obtain ⟨i0, hi, hz0, hz1, hz2⟩ := info_parts Try.info8
  have HI := Lib.hid hi
  have HZ0 := Lib.hid hz0
  have HZ1 := Lib.hid hz1
  have HZ2 := Lib.hid hz2
  clear hi hz0 hz1 hz2
  go_enter Try.func7, Try.ntmps7
  go_wp2_with fail
  refine (new_any 2 2 w (by unfold Near; omega)).mono ?_
  rintro e w1 ⟨rfl, hm1, hb1, hz1⟩
  have HM1 := Lib.hid hm1
  have HB1 := Lib.hid hb1
  clear hm1 hb1 hz1
  go_wp2_with fail
  refine (write_yes _ _ _ _ _ 0 0 _ _ xs _ HM1.out (by omega) (by rw [E0.out]; omega) rfl (HV.out.below HB1.out)).mono ?_
  rintro e w2 ⟨rfl, hm2, ho2⟩
  have HM2 := Lib.hid hm2
  have HB2 := Lib.hid (HB1.out.trans (ho2.below (Nat.le_refl _) HB1.out.size))
  clear hm2 ho2
  go_wp2_with fail
  refine (copy_yes _ _ _ _ _ 0 1 _ HM2.out (by omega) (by omega) rfl rfl).mono ?_
  rintro e w3 ⟨rfl, hm3, ho3⟩
  have HM3 := Lib.hid hm3
  have HB3 := Lib.hid (HB2.out.trans (ho3.below (Nat.le_refl _) HB2.out.size))
  clear hm3 ho3
  go_wp2_with fail
  rw [HP.out]
  refine (write_yes _ _ _ _ _ 0 p _ _ ys _ HM3.out (by omega) (by rw [E1.out]; omega) rfl (HW.out.below HB3.out)).mono ?_
  rintro e w4 ⟨rfl, hm4, ho4⟩
  have HM4 := Lib.hid hm4
  have HB4 := Lib.hid (HB3.out.trans (ho4.below (Nat.le_refl _) HB3.out.size))
  clear hm4 ho4
  go_wp2_with fail
  refine (read_yes _ _ _ _ _ 1 0 64 _ HM4.out (by omega) (by omega) rfl).mono ?_
  rintro e w5 ⟨rfl, hk5, hb5, hz5⟩
  have HL5 := Lib.hid (show (xs ++ List.replicate (64 - l0) 0).length = 64 by have := E0.out; simp; omega)
  have HK5 := Lib.hid (show Blk w5 w4.heap.size 5 ((xs ++ List.replicate (64 - l0) 0).map bv).toArray from by
    have e : win (upd (upd (upd (fun _ => zer) 0 (over zer 0 xs)) 1 (upd (fun _ => zer) 0 (over zer 0 xs) 0)) 0 (over (upd (upd (fun _ => zer) 0 (over zer 0 xs)) 1 (upd (fun _ => zer) 0 (over zer 0 xs) 0) 0) p ys) 1) 0 64 = xs ++ List.replicate (64 - l0) 0 := by
      rw [upd_other _ _ _ (by omega : 1 ≠ 0), upd_same, upd_same, over_zer xs (by rw [E0.out]; exact hl), win_all _ (by have := E0.out; simp; omega), E0.out]
    rw [e] at hk5
    exact hk5)
  have HB5 := Lib.hid (HB4.out.trans (hb5.mono HB4.out.size))
  clear hk5 hb5 hz5
  have HN5 := Lib.hid (own_empty w5 5)
  have HC5 := Lib.hid (show Below w5.heap.size w5 (w5.alloc (.cells #[] 5)) from (Below.refl _ _).alloc (Nat.le_refl _) _)
  go_wp2_with (first
    | (at_builtin; refine wpList_append_bts rfl (.tmp 43) (.tmp 44) 31 rfl w5.heap.size 5 i0 Try.underlying31 HI.out HZ0.out HZ1.out HZ2.out _ 0 [] rfl HN5.out _ xs rfl w.heap.size ((HV.out.below HB5.out).below (HC5.out.mono HB5.out.size)) (by have := E0.out; omega) HC5.out.size ?_; intro v6 w6 O6 B6)
    | (at_builtin; refine wpList_append_zeros rfl (.tmp 45) (.tmp 48) 31 3 rfl w5.heap.size 5 i0 .i64 .i64 Try.underlying31 Try.underlying3 HI.out HZ0.out HZ1.out HZ2.out _ _ _ rfl O6.out _ rfl (64 - l0) (by omega) (by omega) (by have := E0.out; omega) (Nat.le_trans HC5.out.size B6.out.size) ?_; intro v7 w7 O7 B7))
  have HX7 := Lib.hid (show Bts w7 w7.heap.size v7 (xs ++ List.replicate (64 - l0) 0) from by
    have h := Bts.of_own O7.out (fun y hy => by
      rw [List.nil_append, List.mem_append] at hy
      rcases hy with hy | hy
      · exact HV.out.byte y hy
      · rw [List.eq_of_mem_replicate hy]; omega)
    rw [List.nil_append] at h
    exact h)
  have B57 := Lib.hid ((HC5.out.trans B6.out).trans B7.out)
  have HK7 := Lib.hid (HK5.out.below B57.out HK5.out.lt)
  have HB7 := Lib.hid (HB5.out.trans (B57.out.mono HB5.out.size))
  refine (ramAnswers_any _).mono ?_
  rintro e w8 ⟨rfl, hb8⟩
  have HB8 := Lib.hid (HB7.out.trans (hb8.mono HB7.out.size))
  have HK8 := Lib.hid (HK7.out.below hb8 HK7.out.lt)
  have HX8 := Lib.hid (HX7.out.below hb8)
  clear hb8
  go_wp2_with fail
  refine (same_yes _ _ (xs ++ List.replicate (64 - l0) 0) _ _ _ (Bts.of_whole HK8.out HL5.out (by simp [maxLen]) (fun y hy => HX7.out.byte y hy)) HX8.out).mono ?_
  rintro e w9 ⟨rfl, m, rfl⟩
  go_wp2
  go_ret
  exact ⟨rfl, below_drewN HB8.out m⟩
end Go.Proofs.Ytlodeejeeldplaa
