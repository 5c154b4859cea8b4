/-
  The contracts of a pool's Online and Offline.
  Conditions: the bad frames are read in memory that the pool is no part of.
-/
import Derived.Test.YtegoookllckhiaaPoB
namespace Go.Proofs.Ytegoookllckhiaa
open Go.RowKit
set_option linter.unusedVariables false

set_option maxRecDepth 20000
set_option maxHeartbeats 1600000
theorem badU_take {s : Nat} {u : List Nat} {fs : List Int} {i : Nat} {y : Int} (hi : i < fs.length) (hy : y = fs.getD i 0) : badU s u (fs.take (i + 1)) = if 32 * (s : Int) ≤ y ∧ y < 32 * (s : Int) + 32 then (badU s u (fs.take i)).set y.toNat 6 else badU s u (fs.take i) := by
  have e2 : fs.take (i + 1) = fs.take i ++ [fs[i]] := by rw [List.take_add_one, List.getElem?_eq_getElem hi]; rfl
  have e : y = fs[i] := by rw [hy]; simp [hi]
  rw [e2, badU_snoc, e]
theorem spoil_in {p : PS} (ho : PsOk p) {f : Nat} (hf : f < 1024) : (spoilP p (f : Int)).2 = ⟨p.u.set f 6, p.z, p.i⟩ := by
  unfold spoilP
  rw [useP_in p hf]
  by_cases c : p.u.getD f 0 = 6
  · rw [if_neg (fun h => h.2 c)]
    have : p.u.set f 6 = p.u := by
      refine listN_ext (by simp) fun g hg => ?_
      by_cases e : g = f
      · subst e
        rw [getD_set_same _ _ _ _ (by rw [ho.u]; exact hf), c]
      · rw [getD_set_ne _ _ _ _ _ e]
    rw [this]
  · rw [if_pos ⟨⟨by omega, by omega⟩, c⟩, Int.toNat_natCast]
theorem online_bad (g : Nat) (s z : Int) (A : Option Addr) (n c : Nat) (w : World) (h : (s < 0 ∨ 31 < s) ∨ (z ≠ 2 ∧ z ≠ 3)) :
    Calls Try.prog 23 #[.pointer (some ⟨g, 0, none⟩), .int .i64 s, .int .i64 z, .slice A n c] w fun e w' => e = .returned (.int .i64 1) ∧ w = w' := by
  have HS := Lib.hid (hasSect_any g s w)
  by_cases hs : 0 ≤ s ∧ s < 32
  · rw [decide_eq_true hs] at HS
    have d3 : (z != 2) = true := by rw [bne_iff_ne]; omega
    have d4 : (z != 3) = true := by rw [bne_iff_ne]; omega
    clear hs h
    go_enter Try.func23, Try.ntmps23
    go_wp2_with (go_at_call 43; refine HS.out.mono ?_; rintro e w' ⟨rfl, rfl⟩)
    go_ret
    exact ⟨rfl, rfl⟩
  · rw [decide_eq_false hs] at HS
    clear hs h
    go_enter Try.func23, Try.ntmps23
    go_wp2_with (go_at_call 43; refine HS.out.mono ?_; rintro e w' ⟨rfl, rfl⟩)
    go_ret
    exact ⟨rfl, rfl⟩
theorem pool_online_nil (s z : Int) (v : Value) (bs : List Int) (w : World) (hv : Its w w.heap.size v bs) : Calls Try.prog 23 #[.pointer none, .int .i64 s, .int .i64 z, v] w fun e w' => e = .returned (.int .i64 1) ∧ w = w' := by
  obtain ⟨A, N, c, rfl, -⟩ := hv
  have HS := Lib.hid (hasSect_nil s w)
  go_enter Try.func23, Try.ntmps23
  go_wp2_with (go_at_call 43; refine HS.out.mono ?_; rintro e w' ⟨rfl, rfl⟩)
  go_ret
  exact ⟨rfl, rfl⟩
theorem online_new (g : Nat) (p : PS) (k z : Nat) (v : Value) (bs : List Int) (w : World) (h : PoolAt w g p) (hv : Its w w.heap.size v bs) (hoff : Off (fun k => k = g) v) (hk : k < 32) (hz : z = 2 ∨ z = 3) (h0 : p.z.getD k 0 = 0) :
    Calls Try.prog 23 #[.pointer (some ⟨g, 0, none⟩), .int .i64 (k : Int), .int .i64 (z : Int), v] w fun e w' => e = .returned (.int .i64 0) ∧ PoolAt w' g ⟨giveU (badU k p.u bs) 1 (ofZ (badU k p.u bs) 0 (32 * k) 32), p.z.set k z, p.i⟩ ∧ Turns (fun k => k = g) w w' := by
  obtain ⟨A, N, c, rfl, hN, _, hc, hzz⟩ := hv
  have HN := Lib.hid hN
  have HZ := Lib.hid (show ∀ i, i < N → ∃ b1 o1, A = some ⟨b1, o1, none⟩ ∧ b1 ≠ g ∧ b1 < w.heap.size ∧ w.cell? ⟨b1, o1 + i, none⟩ = some (.int .i64 (bs.getD i 0)) from fun i hi => by
    obtain ⟨b1, o1, e, h1, h2⟩ := hzz (by omega)
    exact ⟨b1, o1, e, hoff b1 o1 none N c (by rw [e]) (by omega), h1, h2 i hi⟩)
  have HP := Lib.hid h
  have hml : N ≤ maxLen := by omega
  unfold maxLen at hml
  have HS := Lib.hid (hasSect_any g (k : Int) w)
  rw [decide_eq_true (show (0 : Int) ≤ k ∧ (k : Int) < 32 from ⟨by omega, by omega⟩)] at HS
  have ZN := Lib.hid (pool_zone_at g p (k : Int) w h)
  rw [zoneP_in p hk, h0] at ZN
  have hz3 : z ≤ 3 := by omega
  have HKK := Lib.hid hk
  clear hN hzz hoff h hc h0
  have hk0 : (0 : Int) ≤ (k : Int) := by omega
  have hk1 : (k : Int) < 32 := by omega
  rcases hz with rfl | rfl
  all_goals
    go_enter Try.func23, Try.ntmps23
    go_wp2_with (first | (go_at_call 43; refine HS.out.mono ?_; rintro e w' ⟨rfl, rfl⟩) | (go_at_call 44; refine ZN.out.mono ?_; rintro e w' ⟨rfl, rfl⟩))
    go_loopg [10, 29] N (fun gg _ s29 wx => ∃ i : Nat, i + gg = N ∧ s29 = .int .i64 (i : Int) ∧ PoolAt wx g ⟨badU k p.u (bs.take i), p.z, p.i⟩ ∧ Turns (fun k => k = g) w wx)
    case atStart => exact ⟨0, by omega, rfl, HP.out, Turns.refl _ _⟩
    case round =>
      obtain ⟨i, hig, rfl, hp5, ht5⟩ := hrel
      have HP5 := Lib.hid hp5
      have HT5 := Lib.hid ht5
      clear hp5 ht5
      by_cases hlt : i < N
      · have t4 : decide ((i : Int) < (N : Int)) = true := decide_eq_true (by omega)
        have t5 : (i : Int) < (N : Int) := by omega
        have t6 : (0 : Int) ≤ (i : Int) := by omega
        obtain ⟨b1, o1, rfl, h1, hbl, hcc⟩ := HZ.out i hlt
        obtain ⟨y, hy⟩ : ∃ y, y = bs.getD i 0 := ⟨_, rfl⟩
        have hcell : wr.cell? ⟨b1, o1 + i, none⟩ = some (.int .i64 y) := (World.cell?_of_block (HT5.out.block b1 hbl h1)).trans (by rw [hy]; exact hcc)
        have BT := Lib.hid (badU_take (s := k) (u := p.u) (fs := bs) (i := i) (by rw [HN.out]; exact hlt) hy)
        have WI := Lib.hid (within_any y (k : Int) ⟨hk0, hk1⟩ wr)
        clear hcc hy h1 hbl
        by_cases hin : 32 * (k : Int) ≤ y ∧ y < 32 * (k : Int) + 32
        · rw [decide_eq_true hin] at WI
          rw [if_pos hin] at BT
          obtain ⟨f, rfl⟩ := Int.eq_ofNat_of_zero_le (show 0 ≤ y from by omega)
          have hf : f < 1024 := by omega
          rw [Int.toNat_natCast] at BT
          have SP := Lib.hid (pool_spoil_at g _ (f : Int) wr HP5.out)
          rw [spoil_in HP5.out.ok hf] at SP
          clear hin
          go_wp2_with (go_at_call 45; refine WI.out.mono ?_; rintro e w' ⟨rfl, rfl⟩)
          refine SP.out.mono ?_
          rintro e w2 ⟨rfl, h1, h2⟩
          have H1 := Lib.hid h1
          have H2 := Lib.hid h2
          clear h1 h2
          go_wp2_with fail
          go_roundg (N - (i + 1))
          case measure => omega
          case rel => exact ⟨i + 1, by omega, by go_num, by rw [BT.out]; exact H1.out, HT5.out.trans H2.out⟩
        · rw [decide_eq_false hin] at WI
          rw [if_neg hin] at BT
          clear hin
          go_wp2_with (go_at_call 45; refine WI.out.mono ?_; rintro e w' ⟨rfl, rfl⟩)
          go_roundg (N - (i + 1))
          case measure => omega
          case rel => exact ⟨i + 1, by omega, by go_num, by rw [BT.out]; exact HP5.out, HT5.out⟩
      · obtain rfl : i = N := by omega
        have t4 : decide ((i : Int) < (i : Int)) = false := decide_eq_false (by omega)
        have HTK := Lib.hid (show bs.take i = bs from by rw [← HN.out, List.take_length])
        have HP6 := Lib.hid (show PoolAt wr g ⟨badU k p.u bs, p.z, p.i⟩ from by have := HP5.out; rwa [HTK.out] at this)
        have OF := Lib.hid (of_any g _ (k : Int) 0 wr HP6.out)
        rw [ofP_in _ HKK.out] at OF
        go_wp2_with fail
        refine OF.out.mono ?_
        rintro e w2 ⟨x, rfl, hi2, ho2, hb2⟩
        have GV := Lib.hid (give_any g _ 1 x _ w2 (HP6.out.below hb2 HP6.out.lt) (by omega) hi2 (fun b o sp n c e hn hk => ho2 b o sp n c e hn (by rw [show b = g from hk]; exact HP6.out.lt)) (fun f hf => by have := ofZ_span f hf; have := HKK.out; omega))
        have HB2 := Lib.hid hb2
        obtain ⟨A2, N2, c2, rfl, -⟩ := hi2
        clear ho2 hb2
        go_wp2_with fail
        refine GV.out.mono ?_
        rintro e w3 ⟨rfl, h1, h2⟩
        have H1 := Lib.hid h1
        have H2 := Lib.hid h2
        have hcz := h1.cz HKK.out
        obtain ⟨zo, hzo⟩ : ∃ zo : Nat, zo = p.z.getD k 0 := ⟨_, rfl⟩
        have hcz : w3.cell? ⟨g, 1024 + k * 2, none⟩ = some (.int .i64 (zo : Int)) := by rw [show 1024 + k * 2 = 1024 + 2 * k by omega, hzo]; exact hcz
        have hfz : w3.frozen? ⟨g, 1024 + k * 2, none⟩ = false := h1.fz _
        clear h1 h2 hzo
        go_wp2
        go_ret
        refine ⟨rfl, ?_, HT5.out.trans ((Turns.of_below HB2.out (Nat.le_refl _)).trans (H2.out.trans (Turns.of_only ((Only.refl g w3).setCell (1024 + k * 2) _) rfl)))⟩
        rw [show 1024 + k * 2 = 1024 + 2 * k by omega]
        exact H1.out.sz HKK.out hz3
theorem online_there (g : Nat) (p : PS) (k z : Nat) (A : Option Addr) (n c : Nat) (w : World) (h : PoolAt w g p) (hk : k < 32) (hz : z = 2 ∨ z = 3) (h0 : p.z.getD k 0 ≠ 0) :
    Calls Try.prog 23 #[.pointer (some ⟨g, 0, none⟩), .int .i64 (k : Int), .int .i64 (z : Int), .slice A n c] w fun e w' => e = .returned (.int .i64 3) ∧ w = w' := by
  have HS := Lib.hid (hasSect_any g (k : Int) w)
  rw [decide_eq_true (show (0 : Int) ≤ k ∧ (k : Int) < 32 from ⟨by omega, by omega⟩)] at HS
  have ZN := Lib.hid (pool_zone_at g p (k : Int) w h)
  rw [zoneP_in p hk] at ZN
  obtain ⟨y, hy⟩ : ∃ y : Nat, y = p.z.getD k 0 := ⟨_, rfl⟩
  rw [← hy] at ZN h0
  have d1 : ((y : Int) != 0) = true := by rw [bne_iff_ne]; omega
  clear h hy h0
  rcases hz with rfl | rfl
  all_goals
    go_enter Try.func23, Try.ntmps23
    go_wp2_with (first | (go_at_call 43; refine HS.out.mono ?_; rintro e w' ⟨rfl, rfl⟩) | (go_at_call 44; refine ZN.out.mono ?_; rintro e w' ⟨rfl, rfl⟩))
    go_ret
    exact ⟨rfl, rfl⟩
theorem pool_online_at (g : Nat) (p : PS) (s z : Int) (v : Value) (bs : List Int) (w : World) (h : PoolAt w g p) (hi : PInv p) (hv : Its w w.heap.size v bs) (hoff : Off (fun k => k = g) v) :
    Calls Try.prog 23 #[.pointer (some ⟨g, 0, none⟩), .int .i64 s, .int .i64 z, v] w fun e w' => e = .returned (.int .i64 (((onP p s z bs).1 : Nat) : Int)) ∧ PoolAt w' g (onP p s z bs).2 ∧ Turns (fun k => k = g) w w' := by
  by_cases hb : (s < 0 ∨ 31 < s) ∨ (z ≠ 2 ∧ z ≠ 3)
  · rw [show onP p s z bs = (1, p) from if_pos hb]
    obtain ⟨A, N, c, rfl, -⟩ := hv
    refine (online_bad g s z A N c w hb).mono ?_
    rintro e w' ⟨rfl, rfl⟩
    exact ⟨rfl, h, Turns.refl _ _⟩
  · obtain ⟨k, rfl⟩ := Int.eq_ofNat_of_zero_le (show 0 ≤ s from by omega)
    obtain ⟨y, rfl⟩ := Int.eq_ofNat_of_zero_le (show 0 ≤ z from by omega)
    have hk : k < 32 := by omega
    have hy : y = 2 ∨ y = 3 := by omega
    by_cases h0 : p.z.getD k 0 = 0
    · rw [onP_new hk hy h0]
      obtain ⟨e1, e2⟩ := on_give h.ok hi hk h0 bs
      rw [← e1, e2]
      exact online_new g p k y v bs w h hv hoff hk hy h0
    · rw [show onP p (k : Int) (y : Int) bs = (3, p) from by unfold onP; rw [if_neg hb, Int.toNat_natCast, if_pos h0]]
      obtain ⟨A, N, c, rfl, -⟩ := hv
      refine (online_there g p k y A N c w h hk hy h0).mono ?_
      rintro e w' ⟨rfl, rfl⟩
      exact ⟨rfl, h, Turns.refl _ _⟩

end Go.Proofs.Ytegoookllckhiaa
