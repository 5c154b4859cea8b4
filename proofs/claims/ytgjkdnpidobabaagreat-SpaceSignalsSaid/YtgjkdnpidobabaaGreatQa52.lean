/-
  SpaceSignals: at most so many signals wait; the first ones, in order.
  Conditions: those that each line bears.
-/
import Derived.Test.YtgjkdnpidobabaaGreatQa51
import Derived.Deep.LoopGhost
import Derived.OpenShut
import Derived.BigQuiet
import Derived.Deep.QuietTactic
set_option linter.unusedSimpArgs false
set_option linter.unusedSectionVars false
set_option linter.unusedVariables false
namespace Go.Proofs.YtgjkdnpidobabaaGreat
open Go.RowKit
set_option linter.unusedVariables false

/-- Small numbers in memory. -/
def U16s (w : World) (v : Value) (gs : List Nat) : Prop :=
  ∃ A n c, v = .slice A n c ∧ gs.length = n ∧ n ≤ maxLen ∧ (0 < n → ∃ b off, A = some ⟨b, off, none⟩ ∧ b < w.heap.size ∧ ∀ j, j < n → w.cell? ⟨b, off + j, none⟩ = some (.int .u16 ((gs.getD j 0 : Nat) : Int)) ∧ gs.getD j 0 < 65536)
theorem U16s.of_row {w : World} {a : Option Addr} {len cap : Nat} {zs : List Int}
    (h : (a = none ∧ len = 0 ∧ cap = 0 ∧ zs = []) ∨
      ∃ x, a = some x ∧ len ≤ cap ∧ cap ≤ maxLen ∧ zs.length = cap ∧ (∀ i, i < zs.length → w.cell? (x.add i) = some (.int .u16 (zs.getD i 0))) ∧ ∀ n ∈ zs, (Lit.int .u16 n).wf = true) :
    ∃ xs, U16s w (.slice a len cap) xs := by
  rcases h with ⟨rfl, rfl, rfl, rfl⟩ | ⟨x, rfl, hl, hm, hz, hcell, hwf⟩
  · exact ⟨[], none, 0, 0, rfl, rfl, by simp [maxLen], fun h => absurd h (by omega)⟩
  · have hlen : ((zs.take len).map Int.toNat).length = len := by simp; omega
    have hget : ∀ j, j < len → (((zs.take len).map Int.toNat).getD j 0 : Nat) = (zs.getD j 0).toNat ∧ 0 ≤ zs.getD j 0 ∧ zs.getD j 0 ≤ 65535 := by
      intro j hj
      have hj' : j < zs.length := by omega
      have hw := bounds_u16 (hwf _ (List.getElem_mem hj'))
      refine ⟨by simp [hj, hj'], ?_⟩
      simpa [hj'] using hw
    refine ⟨(zs.take len).map Int.toNat, some x, len, cap, rfl, hlen, Nat.le_trans hl hm, fun h0 => ?_⟩
    obtain ⟨b, off, spot⟩ := x
    have hc := hcell 0 (by omega)
    have hspot : spot = none := by simpa [Addr.add] using World.cell?_spot hc
    subst hspot
    refine ⟨b, off, rfl, ?_, fun j hj => ?_⟩
    · have := World.block_lt_of_cell? w _ hc
      simpa [Addr.add] using this
    · have hcj := hcell j (by omega)
      have e2 : (Addr.mk b off none).add j = ⟨b, off + j, none⟩ := by unfold Addr.add; split <;> simp_all
      rw [e2] at hcj
      obtain ⟨e, h1, h2⟩ := hget j hj
      refine ⟨?_, by omega⟩
      rw [hcj, e, Int.toNat_of_nonneg h1]
/-- What waits behind so many. -/
def tkS (xs : List Nat) (i : Nat) : List Int := ((xs.take i).map fun (x : Nat) => (x : Int)).take 16
theorem tkS_zero (xs : List Nat) : tkS xs 0 = [] := by simp [tkS]
theorem tkS_length (xs : List Nat) (i : Nat) (h : i ≤ xs.length) : (tkS xs i).length = min 16 i := by
  simp only [tkS, List.length_take, List.length_map]
  omega
theorem tkS_next (xs : List Nat) (i : Nat) (h : i < xs.length) : tkS xs (i + 1) = if (tkS xs i).length < 16 then tkS xs i ++ [((xs.getD i 0 : Nat) : Int)] else tkS xs i := by
  have e : xs.take (i + 1) = xs.take i ++ [xs.getD i 0] := by
    rw [List.take_add_one]
    simp [h]
  rw [tkS_length xs i (by omega)]
  unfold tkS
  rw [e, List.map_append, List.take_append]
  simp only [List.length_map, List.length_take, List.map_cons, List.map_nil]
  by_cases c : min 16 i < 16
  · rw [if_pos c, List.take_of_length_le (l := [_]) (by simp; omega)]
  · rw [if_neg c, show 16 - min i xs.length = 0 by omega]
    simp
theorem tkS_at (xs : List Nat) (i : Nat) (h : i < xs.length) (h16 : i < 16) : (tkS xs xs.length).drop i = ((xs.getD i 0 : Nat) : Int) :: (tkS xs xs.length).drop (i + 1) := by
  have hl := tkS_length xs xs.length (Nat.le_refl _)
  have hi : i < (tkS xs xs.length).length := by omega
  rw [List.drop_eq_getElem_cons hi]
  congr 1
  simp [tkS, h]
theorem tkS_end (xs : List Nat) (i : Nat) (h : i = min 16 xs.length) : (tkS xs xs.length).drop i = [] := by
  apply List.drop_eq_nil_of_le
  rw [tkS_length xs xs.length (Nat.le_refl _)]
  omega
theorem sig_pr {W : UW} {n : Nat} {p : Prc} (h : W.pr n = some p) (l : List Int) : (sigU W n l).pr n = some ⟨p.ars, l⟩ := by
  unfold sigU
  simp only [h, Option.map_some]
  exact upd_same _ _ _
set_option maxRecDepth 20000 in
set_option maxHeartbeats 4000000 in
theorem spaceSignals_any (v0 : Value) (xs : List Nat) (w : World) (hv : U16s w v0 xs) :
    Calls Tryz.prog 8 #[v0] w fun e w' => e = .returned (.bool true) ∧ Below w.heap.size w w' := by
  obtain ⟨A0, l0, c0, rfl, e0, hm, hx⟩ := hv
  have E0 := Lib.hid e0
  have HX := Lib.hid hx
  clear e0 hx
  unfold maxLen at hm
  by_cases c : 60 < l0
  · have t1 : decide ((60 : Int) < (l0 : Int)) = true := decide_eq_true (by omega)
    go_enter Tryz.func8, Tryz.ntmps8
    go_wp2_with fail
    refine (spaceAnswers_any w).mono ?_
    rintro e w1 ⟨rfl, hb⟩
    go_wp2
    go_ret
    exact ⟨rfl, hb⟩
  · have t1 : decide ((60 : Int) < (l0 : Int)) = false := decide_eq_false (by omega)
    go_enter Tryz.func8, Tryz.ntmps8
    go_wp2_with fail
    refine (fresh_any 1 1 (by omega) (by omega) w).mono ?_
    intro e w1 hf
    obtain ⟨gS, gW, fl, rfl, ht1⟩ := SpT.begin hf
    have HT1 := Lib.hid ht1
    clear hf ht1
    go_wp2_with fail
    refine (t_of HT1.out fun K h => space_spawn gS K _ 31 32 0 w1 4 (by omega) (uw0_pr fl 4) h).mono ?_
    rintro e w2 ⟨rfl, ht⟩
    have HS2 := Lib.hid (show ∃ W a, SpT w w2 gS W 31 32 1 [] [] ∧ W.pr 4 = some ⟨a, tkS xs 0⟩ from ⟨_, _, ht, by rw [tkS_zero]; exact spawn_pr _ _⟩)
    clear ht
    go_wp2_with fail
    go_loopg [5] l0 (fun gg s5 wx => ∃ i : Nat, i + gg = l0 ∧ s5 = .int .i64 (i : Int) ∧ ∃ W a, SpT w wx gS W 31 32 1 [] [] ∧ W.pr 4 = some ⟨a, tkS xs i⟩)
    case atStart => exact ⟨0, by omega, rfl, HS2.out⟩
    case round =>
      obtain ⟨i, hig, rfl, W, a, ht, hp⟩ := hrel
      have HT3 := Lib.hid ht
      have HP3 := Lib.hid hp
      clear ht hp
      by_cases hlt : i < l0
      · have t2 : decide ((i : Int) < (l0 : Int)) = true := decide_eq_true (by omega)
        obtain ⟨b, off, rfl, hbl, hc⟩ := HX.out (by omega)
        obtain ⟨hc1, hc2⟩ := hc i hlt
        obtain ⟨y, hy⟩ : ∃ y, y = xs.getD i 0 := ⟨_, rfl⟩
        rw [← hy] at hc1 hc2
        have hc3 : wr.cell? ⟨b, off + i, none⟩ = some (.int .u16 (y : Int)) := by rw [HT3.out.below.cell (p := ⟨b, off + i, none⟩) hbl]; exact hc1
        have HY := Lib.hid hy
        have WY := Lib.hid (show (Lit.int .i64 (y : Int)).wf = true from wf64 (by omega) (by omega))
        clear hc hc1 hy hbl
        go_wp2_with fail
        refine (t_of HT3.out fun K h => space_tell gS K _ 31 32 1 wr 4 _ (y : Int) WY.out HP3.out h).mono ?_
        rintro e w4 ⟨rfl, ht⟩
        have HS4 := Lib.hid (show ∃ W a, SpT w w4 gS W 31 32 1 [] [] ∧ W.pr 4 = some ⟨a, tkS xs (i + 1)⟩ from ⟨_, _, ht, by rw [sig_pr HP3.out, tkS_next xs i (by rw [E0.out]; exact hlt), HY.out]⟩)
        clear ht hc3
        go_wp2_with fail
        go_roundg (l0 - (i + 1))
        case measure => omega
        case rel => exact ⟨i + 1, by omega, by go_num, HS4.out⟩
      · obtain rfl : i = l0 := by omega
        have t2 : decide ((i : Int) < (i : Int)) = false := decide_eq_false (by omega)
        have HS5 := Lib.hid (show ∃ W a, SpT w wr gS W 31 32 1 [] [] ∧ W.pr 4 = some ⟨a, (tkS xs xs.length).drop 0⟩ from ⟨W, a, HT3.out, by rw [HP3.out, List.drop_zero, E0.out]⟩)
        obtain ⟨wA, rfl⟩ : ∃ wA, wA = wr := ⟨_, rfl⟩
        obtain ⟨gA, rfl⟩ : ∃ gA, gA = gk := ⟨_, rfl⟩
        clear HT3 HP3
        go_wp2_with fail
        go_loopg [6, 7, 8] i (fun gg s6 _ _ wx => ∃ j : Nat, j + gg = i ∧ j ≤ 16 ∧ s6 = .int .i64 (j : Int) ∧ ∃ W a, SpT w wx gS W 31 32 1 [] [] ∧ W.pr 4 = some ⟨a, (tkS xs xs.length).drop j⟩)
        case atStart => exact ⟨0, by omega, by omega, rfl, HS5.out⟩
        case round =>
          obtain ⟨j, hjg, hj16, rfl, W6, a6, ht, hp⟩ := hrel
          have HT6 := Lib.hid ht
          have HP6 := Lib.hid hp
          clear ht hp
          by_cases hlt2 : j < i ∧ j < 16
          · obtain ⟨k1, k2⟩ := hlt2
            have t3 : decide ((j : Int) < (i : Int)) = true := decide_eq_true (by omega)
            have t4 : decide ((j : Int) < 16) = true := decide_eq_true (by omega)
            obtain ⟨b, off, rfl, hbl, hc⟩ := HX.out (by omega)
            obtain ⟨hc1, hc2⟩ := hc j k1
            obtain ⟨y, hy⟩ : ∃ y, y = xs.getD j 0 := ⟨_, rfl⟩
            have hat := tkS_at xs j (by rw [E0.out]; exact k1) k2
            rw [← hy] at hc1 hc2 hat
            have HAT := Lib.hid hat
            have HC := Lib.hid hc1
            have HBL := Lib.hid hbl
            clear hc hy hat hc1 hbl
            go_wp2_with fail
            refine (t_of HT6.out fun K h => space_signal gS K _ 31 32 1 wr 4 _ (y : Int) ((tkS xs xs.length).drop (j + 1)) HP6.out HAT.out h).mono ?_
            rintro e w7 ⟨rfl, ht⟩
            have HP7 := Lib.hid (sig_pr HP6.out ((tkS xs xs.length).drop (j + 1)))
            obtain ⟨W7, hW7⟩ : ∃ W7, W7 = sigU W6 4 ((tkS xs xs.length).drop (j + 1)) := ⟨_, rfl⟩
            rw [← hW7] at ht HP7
            have HT7 := Lib.hid (ht.made 44 #[.int .i64 4, .int .i64 (y : Int)])
            clear ht hW7
            obtain ⟨w8, hw8⟩ : ∃ w8, w8 = w7.alloc (.cells #[.int .i64 4, .int .i64 (y : Int)] 44) := ⟨_, rfl⟩
            rw [← hw8] at HT7
            have hb8 := HT7.out.blk (List.mem_cons_self ..)
            have q0 : w8.cell? ⟨w7.heap.size, 0, none⟩ = some (.int .i64 4) := hb8.cell 0
            have q1 : w8.cell? ⟨w7.heap.size, 1, none⟩ = some (.int .i64 (y : Int)) := hb8.cell 1
            have q2 : w8.cell? ⟨b, off + j, none⟩ = some (.int .u16 (y : Int)) := by rw [HT7.out.below.cell (p := ⟨b, off + j, none⟩) HBL.out]; exact HC.out
            have HW8 := Lib.hid hw8
            clear hw8 hb8
            go_wp2_with fail
            rw [← HW8.out]
            go_quiet (fail)
            have HS8 := Lib.hid (show SpT w (w8.drewN nq) gS W7 31 32 1 [] [] from by
              obtain ⟨K, h1, h2, h3, h4, h5⟩ := HT7.out.fresh (below_drewN (Below.refl w8.heap.size w8) nq)
              exact ⟨K, h1, h2, h3, fun x hx => absurd hx List.not_mem_nil, fun x hx => absurd hx List.not_mem_nil⟩)
            go_wp2
            go_roundg (i - (j + 1))
            case measure => omega
            case rel => exact ⟨j + 1, by omega, by omega, by go_num, W7, _, HS8.out, HP7.out⟩
          · by_cases k1 : j = i
            · subst k1
              have t3 : decide ((j : Int) < (j : Int)) = false := decide_eq_false (by omega)
              have HT7 := Lib.hid (HT6.out.fresh (Below.refl _ _))
              go_wp2_with fail
              refine (t_of HT6.out fun K h => space_signal_none gS K _ 31 32 1 wr 4 _ HP6.out (tkS_end xs j (by rw [E0.out]; omega)) h).mono ?_
              rintro e w7 ⟨rfl, ht⟩
              have HT8 := Lib.hid (ht.made 44 #[.int .i64 0, .int .i64 0])
              clear ht HT7
              go_wp2_with fail
              refine (spaceAnswers_any _).mono ?_
              rintro e w9 ⟨rfl, hb⟩
              have HB9 := Lib.hid (HT8.out.fresh hb).below
              clear hb
              go_wp2
              go_ret
              exact ⟨rfl, HB9.out⟩
            · obtain rfl : j = 16 := by omega
              have t3 : decide ((16 : Int) < (i : Int)) = true := decide_eq_true (by omega)
              have t4 : decide ((16 : Int) < 16) = false := rfl
              have HT7 := Lib.hid (HT6.out.fresh (Below.refl _ _))
              go_wp2_with fail
              refine (t_of HT6.out fun K h => space_signal_none gS K _ 31 32 1 wr 4 _ HP6.out (tkS_end xs 16 (by rw [E0.out]; omega)) h).mono ?_
              rintro e w7 ⟨rfl, ht⟩
              have HT8 := Lib.hid (ht.made 44 #[.int .i64 0, .int .i64 0])
              clear ht HT7
              go_wp2_with fail
              refine (spaceAnswers_any _).mono ?_
              rintro e w9 ⟨rfl, hb⟩
              have HB9 := Lib.hid (HT8.out.fresh hb).below
              clear hb
              go_wp2
              go_ret
              exact ⟨rfl, HB9.out⟩
end Go.Proofs.YtgjkdnpidobabaaGreat

