/-
  The contracts of a pool's New, and of what may be given of a zone.
  Conditions: those that each line bears.
-/
import Derived.Test.YtegoookllckhiaaPoB
import Derived.RegionTactic
import Derived.BigRegion
namespace Go.Proofs.Ytegoookllckhiaa
open Go.RowKit
set_option linter.unusedVariables false

set_option maxRecDepth 20000
set_option maxHeartbeats 800000
/-! ### New -/
def zeroL : List Value := List.replicate 1024 (.int .i64 0) ++ (List.replicate 32 [Value.int .i64 0, Value.bool false]).flatten
theorem Try.zeroOwn : (Try.prog.info? 79).map (fun i => i.zero) = some (some (.agg zeroL.toArray)) := by kernel_rfl
theorem zero_own : ∃ Z : Array Value, Z = zeroL.toArray ∧ ∀ w, (zeroValue 79).run Try.prog w = .ok (.agg Z) w := by
  refine ⟨_, rfl, fun w => ?_⟩
  have h := Try.zeroOwn
  cases hq : Try.prog.info? 79 with
  | none => rw [hq] at h; cases h
  | some i =>
    rw [hq] at h
    simp only [Option.map_some, Option.some.injEq] at h
    simp [zeroValue, typeInfo, hq, h]
theorem pairs_at (n : Nat) : ∀ s, s < n → (List.replicate n [Value.int .i64 0, Value.bool false]).flatten[2 * s]? = some (.int .i64 0) ∧ (List.replicate n [Value.int .i64 0, Value.bool false]).flatten[2 * s + 1]? = some (.bool false) := by
  induction n with
  | zero => intro s h; omega
  | succ n ih =>
    intro s h
    rw [List.replicate_succ, List.flatten_cons]
    cases s with
    | zero => exact ⟨rfl, rfl⟩
    | succ s =>
      obtain ⟨h1, h2⟩ := ih s (by omega)
      rw [show 2 * (s + 1) = 2 * s + 2 by omega, show 2 * s + 2 + 1 = 2 * s + 1 + 2 by omega]
      exact ⟨h1, h2⟩
theorem zeroL_v : PoolV zeroL ps0 where
  n := by unfold zeroL; simp
  u f hf := by
    rw [ps0_u]
    unfold zeroL
    rw [List.getElem?_append_left (by rw [List.length_replicate]; exact hf), List.getElem?_replicate, if_pos hf]
    rfl
  z s hs := by
    rw [ps0_z]
    unfold zeroL
    rw [List.getElem?_append_right (by rw [List.length_replicate]; omega), List.length_replicate, Nat.add_sub_cancel_left]
    exact (pairs_at 32 s hs).1
  i s hs := by
    rw [ps0_i]
    unfold zeroL
    rw [List.getElem?_append_right (by rw [List.length_replicate]; omega), List.length_replicate, show 1024 + 2 * s + 1 - 1024 = 2 * s + 1 by omega]
    exact (pairs_at 32 s hs).2
theorem pool_new (w : World) :
    Calls Try.prog 21 #[] w fun e w' => ∃ gS K, e = .returned (.pointer (some ⟨gS, 0, none⟩)) ∧ PoolMem w' gS K ps0 ∧ (∀ k, K k → w.heap.size ≤ k) ∧ Below w.heap.size w w' := by
  obtain ⟨Z, hZ, hzr⟩ := zero_own
  have HZ := Lib.hid hZ
  clear hZ
  go_enter Try.func21, Try.ntmps21
  go_wp2
  go_ret
  refine ⟨w.heap.size, _, rfl, ⟨rfl, ⟨zeroL, ?_, zeroL_v, ps0_ok⟩, PInv.ps0_⟩, ?_, (Below.refl _ _).alloc (Nat.le_refl _) _⟩
  · rw [← HZ.out]
    exact Blk.new w _ _
  · rintro k rfl
    exact Nat.le_refl _

/-! ### what may be given of a zone -/
theorem open_any (g : Nat) (p : PS) (z : Nat) (w : World) (h : PoolAt w g p) :
    Calls Try.prog 73 #[.pointer (some ⟨g, 0, none⟩), .int .i64 (z : Int)] w fun e w' => ∃ gS K, e = .returned (.pointer (some ⟨gS, 0, none⟩)) ∧ RunMem w' gS K (openB p z 32) ∧ (∀ k, K k → w.heap.size ≤ k) ∧ Below w.heap.size w w' := by
  have HP := Lib.hid h
  have c0 : cutN 1024 = 1024 := by decide
  have NW := Lib.hid (runs_new 1024 w)
  rw [c0, ← openB_zero p z] at NW
  clear h c0
  go_enter Try.func73, Try.ntmps73
  go_wp2_with fail
  refine NW.out.mono ?_
  rintro e w1 ⟨gR, KR, rfl, hr1, hk1, hb1⟩
  have HR1 := Lib.hid hr1
  have HK1 := Lib.hid hk1
  have HB1 := Lib.hid hb1
  clear hr1 hk1 hb1
  go_wp2_with fail
  go_loopg [6, 7, 13] 32 (fun gg _ _ s13 wx => ∃ (k : Nat) (K : Nat → Prop), k + gg = 32 ∧ s13 = .int .i64 (k : Int) ∧ RunMem wx gR K (openB p z k) ∧ (∀ j, K j → w.heap.size ≤ j) ∧ Below w.heap.size w wx)
  case atStart => exact ⟨0, KR, by omega, rfl, HR1.out, HK1.out, HB1.out⟩
  case round =>
    obtain ⟨k, K, hkg, rfl, hr5, hk5, hb5⟩ := hrel
    have HR5 := Lib.hid hr5
    have HK5 := Lib.hid hk5
    have HB5 := Lib.hid hb5
    have HP5 := Lib.hid (HP.out.below hb5 HP.out.lt)
    clear hr5 hk5 hb5
    by_cases hlt : k < 32
    · have t1 : decide ((k : Int) < 32) = true := decide_eq_true (by omega)
      have t2 : (0 : Int) ≤ (k : Int) := by omega
      have t3 : (k : Int) < 32 := by omega
      have hcz := HP5.out.cz hlt
      have hci := HP5.out.ci hlt
      obtain ⟨y, hy⟩ : ∃ y : Nat, y = p.z.getD k 0 := ⟨_, rfl⟩
      obtain ⟨ib, hib⟩ : ∃ ib, ib = p.i.getD k false := ⟨_, rfl⟩
      rw [← hy] at hcz
      rw [← hib] at hci
      rw [show 1024 + 2 * k = 1024 + k * 2 by omega] at hcz hci
      have HY := Lib.hid hy
      have HI := Lib.hid hib
      clear hy hib
      have hgl : g < wr.heap.size := HP5.out.lt
      have hcz2 : (wr.alloc (.cells #[Value.int .i64 0, Value.bool false] 76)).cell? ⟨g, 1024 + k * 2, none⟩ = some (.int .i64 (y : Int)) := (((Below.refl wr.heap.size wr).alloc (Nat.le_refl _) _).cell (p := ⟨g, 1024 + k * 2, none⟩) hgl).trans hcz
      have hci2 : (wr.alloc (.cells #[Value.int .i64 0, Value.bool false] 76)).cell? ⟨g, 1024 + k * 2 + 1, none⟩ = some (.bool ib) := (((Below.refl wr.heap.size wr).alloc (Nat.le_refl _) _).cell (p := ⟨g, 1024 + k * 2 + 1, none⟩) hgl).trans hci
      go_wp2_with fail
      go_region
      have HW0 := Lib.hid (show Below wr.heap.size wr (wr.alloc (.cells #[Value.int .i64 (y : Int), Value.bool ib] 76)).drew from ((Below.refl _ _).alloc (Nat.le_refl _) _).drew)
      have HB0 := Lib.hid (show Blk (wr.alloc (.cells #[Value.int .i64 (y : Int), Value.bool ib] 76)).drew wr.heap.size 76 #[Value.int .i64 (y : Int), Value.bool ib] from Blk.new wr _ _)
      clear hcz hci hcz2 hci2
      generalize (wr.alloc (.cells #[Value.int .i64 (y : Int), Value.bool ib] 76)).drew = W at *
      have f0 : W.cell? ⟨wr.heap.size, 0, none⟩ = some (.int .i64 (y : Int)) := HB0.out.cell 0
      have f1 : W.cell? ⟨wr.heap.size, 1, none⟩ = some (.bool ib) := HB0.out.cell 1
      have HPW := Lib.hid (HP5.out.below HW0.out HP5.out.lt)
      have HRW := Lib.hid (HR5.out.fresh HW0.out)
      have HBW := Lib.hid (HB5.out.trans (HW0.out.mono HB5.out.size))
      by_cases e : y = z
      · subst e
        have d1 : ((y : Int) == (y : Int)) = true := by simp
        cases ib with
        | false =>
          have OY := Lib.hid (openB_yes (p := p) (z := y) hlt HY.out.symm HI.out.symm)
          have OF := Lib.hid (of_any g p (k : Int) 1 W HPW.out)
          rw [ofP_in p hlt] at OF
          go_wp2_with fail
          refine OF.out.mono ?_
          rintro e w2 ⟨v, rfl, hi2, ho2, hb2⟩
          have AD := Lib.hid (runs_add gR K (openB p y k) v (ofZ p.u 1 (32 * k) 32) w2 (HRW.out.fresh hb2) hi2 (fun b o sp n c e hn hk => ho2 b o sp n c e hn (HRW.out.lt _ hk)))
          have HB2 := Lib.hid (HBW.out.trans (hb2.mono HBW.out.size))
          obtain ⟨A, N, c, rfl, -⟩ := hi2
          clear ho2 hb2
          go_wp2_with fail
          refine AD.out.mono ?_
          rintro e w3 ⟨K3, rfl, hr3, hk3, ht3⟩
          have HR3 := Lib.hid hr3
          have HK3 := Lib.hid hk3
          have HT3 := Lib.hid ht3
          clear hr3 hk3 ht3
          go_wp2_with fail
          go_roundg (31 - k)
          case measure => omega
          case rel =>
            refine ⟨k + 1, K3, by omega, by go_num, by rw [← OY.out]; exact HR3.out, fun j hj => ?_, HB2.out.trans (HT3.out.below (fun j hj => HK5.out j hj) HB2.out.size)⟩
            rcases HK3.out j hj with h | h
            · exact HK5.out j h
            · exact Nat.le_trans HB2.out.size h
        | true =>
          have ON := Lib.hid (openB_no (p := p) (z := y) hlt (.inr HI.out.symm))
          go_wp2_with fail
          go_roundg (31 - k)
          case measure => omega
          case rel => exact ⟨k + 1, K, by omega, by go_num, by rw [ON.out]; exact HRW.out, HK5.out, HBW.out⟩
      · have d1 : ((y : Int) == (z : Int)) = false := by simp; omega
        have ON := Lib.hid (openB_no (p := p) (z := z) hlt (.inl (by rw [← HY.out]; exact e)))
        go_wp2_with fail
        go_roundg (31 - k)
        case measure => omega
        case rel => exact ⟨k + 1, K, by omega, by go_num, by rw [ON.out]; exact HRW.out, HK5.out, HBW.out⟩
    · obtain rfl : k = 32 := by omega
      have t3 : decide (((32 : Nat) : Int) < 32) = false := by decide
      go_wp2
      go_ret
      exact ⟨gR, K, rfl, HR5.out, HK5.out, HB5.out⟩
end Go.Proofs.Ytegoookllckhiaa
