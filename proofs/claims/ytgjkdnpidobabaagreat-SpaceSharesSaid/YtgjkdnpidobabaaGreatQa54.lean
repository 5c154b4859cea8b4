/-
  What users see behind a fork (nothing of the program).
  SpaceShares: a shared page of a file is one for all, whoever stores; a private one is one's own, from one's first store on.
  Conditions: those that each line bears.
-/
import Derived.Test.YtgjkdnpidobabaaGreatQa51
import Derived.Deep.LoopGhost
set_option linter.unusedSimpArgs false
set_option linter.unusedSectionVars false
set_option linter.unusedVariables false
namespace Go.Proofs.YtgjkdnpidobabaaGreat
open Go.RowKit
set_option linter.unusedVariables false
theorem spawn_ne {W : UW} {n k : Nat} (h : k ≠ n) : (spawnU W n).pr k = W.pr k := upd_other _ _ _ h
theorem One.pr_ne {W : UW} {n : Nat} {a : Ar} (h : One W n a) : W.pr n ≠ none := by
  obtain ⟨p, hp, _⟩ := h
  rw [hp]
  simp
end Go.Proofs.YtgjkdnpidobabaaGreat

namespace Go.Proofs.YtgjkdnpidobabaaGreat
open Go.RowKit
set_option linter.unusedVariables false

/-- So many processes, the first ones, without areas. -/
def spns (fl : Nat → Nat → Nat) : Nat → UW
  | 0 => uw0 fl
  | n + 1 => spawnU (spns fl n) n
theorem spns_pr (fl : Nat → Nat → Nat) (m : Nat) : ∀ n, (spns fl n).pr m = if m < n then some ⟨[], []⟩ else none := by
  intro n
  induction n with
  | zero => rw [if_neg (by omega)]; rfl
  | succ n ih =>
    by_cases c : m = n
    · subst c
      rw [if_pos (by omega)]
      exact spawn_pr _ _
    · show (spawnU (spns fl n) n).pr m = _
      rw [spawn_ne c, ih]
      by_cases d : m < n
      · rw [if_pos d, if_pos (by omega)]
      · rw [if_neg d, if_neg (by omega)]
theorem spns_own (fl : Nat → Nat → Nat) (m q : Nat) : ∀ n, (spns fl n).own m q = none := by
  intro n
  induction n with
  | zero => rfl
  | succ n ih => exact ih
theorem t_spns {w wx : World} {gS n : Nat} {fl : Nat → Nat → Nat} {H : List (Value × List Nat)} {L : List (Nat × TypeId × Array Value)} (h : SpT w wx gS (spns fl n) (96 - n) 96 n H L) (hn : n < 3) :
    Calls Tryz.prog 11 #[.pointer (some ⟨gS, 0, none⟩), .int .i64 (n : Int)] wx (TPost w gS (.int .i64 0) (spns fl (n + 1)) (96 - (n + 1)) 96 (n + 1) H L) := by
  refine t_of h fun K hK => ?_
  rw [show 96 - n = 96 - (n + 1) + 1 by omega] at hK
  exact space_spawn gS K _ _ 96 n wx n (by omega) (by rw [spns_pr, if_neg (by omega)]) hK
def aS0 : Ar := ⟨0, 16, true, 2, 2, 0⟩
def aS1 : Ar := ⟨32, 16, true, 2, 2, 0⟩
def aS2 : Ar := ⟨64, 16, true, 3, 2, 0⟩
theorem ars_pr0 {W : UW} {n : Nat} (h : W.pr n = some ⟨[], []⟩) (l : List Ar) : (arsU W n l).pr n = some ⟨l, []⟩ := ars_pr h l
theorem ars_one0 {W : UW} {n : Nat} (h : W.pr n = some ⟨[], []⟩) (a : Ar) : One (arsU W n [a]) n a := ⟨_, ars_pr0 h _, rfl⟩
theorem three {W : UW} (r : ∀ m, m < 3 → W.pr m = some ⟨[], []⟩) : One (arsU (arsU (arsU W 0 [aS0]) 1 [aS1]) 2 [aS2]) 0 aS0 ∧ One (arsU (arsU (arsU W 0 [aS0]) 1 [aS1]) 2 [aS2]) 1 aS1 ∧ One (arsU (arsU (arsU W 0 [aS0]) 1 [aS1]) 2 [aS2]) 2 aS2 := by
  have e1 : (arsU W 0 [aS0]).pr 1 = some ⟨[], []⟩ := (ars_ne W _ (by omega : (1 : Nat) ≠ 0)).trans (r 1 (by omega))
  have e2 : (arsU (arsU W 0 [aS0]) 1 [aS1]).pr 2 = some ⟨[], []⟩ := (ars_ne _ _ (by omega : (2 : Nat) ≠ 1)).trans ((ars_ne W _ (by omega : (2 : Nat) ≠ 0)).trans (r 2 (by omega)))
  exact ⟨((ars_one0 (r 0 (by omega)) aS0).congr (ars_ne _ _ (by omega : (0 : Nat) ≠ 1))).congr (ars_ne _ _ (by omega : (0 : Nat) ≠ 2)), (ars_one0 e1 aS1).congr (ars_ne _ _ (by omega : (1 : Nat) ≠ 2)), ars_one0 e2 aS2⟩
/-- What is loaded, ahead of the other stores and behind them. -/
theorem shared {W : UW} {k l : Nat} {xs ys : List Nat} (h0 : One W 0 aS0) (h1 : One W 1 aS1) (h2 : One W 2 aS2) (ho : ∀ m q, W.own m q = none) (hk : k < 16) (hx : xs.length = l) (hy : ys.length = l) (hl : 0 < l ∧ l ≤ 64) :
    One (storeU W 0 (64 * k) xs) 1 aS1 ∧ One (storeU W 0 (64 * k) xs) 2 aS2 ∧ bytesU (storeU W 0 (64 * k) xs) 1 (64 * (32 + k)) l = xs ∧ bytesU (storeU W 0 (64 * k) xs) 2 (64 * (64 + k)) l = xs ∧
    One (storeU (storeU W 0 (64 * k) xs) 2 (64 * (64 + k)) (xs.take 1)) 1 aS1 ∧
    One (storeU (storeU (storeU W 0 (64 * k) xs) 2 (64 * (64 + k)) (xs.take 1)) 1 (64 * (32 + k)) ys) 0 aS0 ∧ One (storeU (storeU (storeU W 0 (64 * k) xs) 2 (64 * (64 + k)) (xs.take 1)) 1 (64 * (32 + k)) ys) 2 aS2 ∧
    bytesU (storeU (storeU (storeU W 0 (64 * k) xs) 2 (64 * (64 + k)) (xs.take 1)) 1 (64 * (32 + k)) ys) 0 (64 * k) l = ys ∧ bytesU (storeU (storeU (storeU W 0 (64 * k) xs) 2 (64 * (64 + k)) (xs.take 1)) 1 (64 * (32 + k)) ys) 2 (64 * (64 + k)) l = xs := by
  have i0 : ∀ j, j < 64 → inAr aS0 (64 * k + j) := fun j hj => by unfold inAr aS0; simp only; omega
  have i1 : ∀ j, j < 64 → inAr aS1 (64 * (32 + k) + j) := fun j hj => by unfold inAr aS1; simp only; omega
  have i2 : ∀ j, j < 64 → inAr aS2 (64 * (64 + k) + j) := fun j hj => by unfold inAr aS2; simp only; omega
  have f0 : ∀ j, FA aS0 (64 * k + j) = 2048 + 64 * k + j := fun j => by unfold FA aS0; simp; omega
  have f1 : ∀ j, FA aS1 (64 * (32 + k) + j) = 2048 + 64 * k + j := fun j => by unfold FA aS1; simp; omega
  have f2 : ∀ j, FA aS2 (64 * (64 + k) + j) = 2048 + 64 * k + j := fun j => by unfold FA aS2; simp; omega
  obtain ⟨s1, s2, s3⟩ := storeU_shared (a := aS0) rfl (by decide) xs W (64 * k) h0 (fun j hj => i0 j (by omega))
  obtain ⟨W4, hW4⟩ : ∃ W4, W4 = storeU W 0 (64 * k) xs := ⟨_, rfl⟩
  rw [← hW4] at s1 s2 s3 ⊢
  have e0 := f0 0
  rw [Nat.add_zero, Nat.add_zero] at e0
  rw [e0] at s3
  have h41 : One W4 1 aS1 := h1.congr (by rw [s1])
  have h42 : One W4 2 aS2 := h2.congr (by rw [s1])
  have b2 : ∀ j, j < l → W4.byte 2 (64 * (64 + k) + j) = xs.getD j 0 := fun j hj => by
    have hij := i2 j (by omega)
    rw [byte_file (c := aS2) (by rw [s2]; exact ho _ _) (h42.area hij.1 hij.2) (by decide) (by decide) hij.1, s3, f2, if_pos ⟨by omega, by omega⟩, Nat.add_sub_cancel_left]
  obtain ⟨t1, t2, t3, t4, t5, t6, t7⟩ := storeU_own (a := aS2) (by decide) (xs.take 1) W4 (64 * (64 + k)) h42 (fun j hj => i2 j (by rw [List.length_take] at hj; omega))
  obtain ⟨W5, hW5⟩ : ∃ W5, W5 = storeU W4 2 (64 * (64 + k)) (xs.take 1) := ⟨_, rfl⟩
  rw [← hW5] at t1 t2 t3 t4 t5 t6 t7 ⊢
  have h51 : One W5 1 aS1 := h41.congr (by rw [t1])
  obtain ⟨u1, u2, u3⟩ := storeU_shared (a := aS1) rfl (by decide) ys W5 (64 * (32 + k)) h51 (fun j hj => i1 j (by omega))
  obtain ⟨W6, hW6⟩ : ∃ W6, W6 = storeU W5 1 (64 * (32 + k)) ys := ⟨_, rfl⟩
  rw [← hW6] at u1 u2 u3 ⊢
  have e1 := f1 0
  rw [Nat.add_zero, Nat.add_zero] at e1
  rw [e1] at u3
  have h60 : One W6 0 aS0 := h0.congr (by rw [u1, t1, s1])
  have h62 : One W6 2 aS2 := h2.congr (by rw [u1, t1, s1])
  refine ⟨h41, h42, ?_, ?_, h51, h60, h62, ?_, ?_⟩
  · rw [← hx]
    refine bytesU_eq fun j hj => ?_
    have hij := i1 j (by omega)
    rw [byte_file (c := aS1) (by rw [s2]; exact ho _ _) (h41.area hij.1 hij.2) (by decide) (by decide) hij.1, s3, f1, if_pos ⟨by omega, by omega⟩, Nat.add_sub_cancel_left]
  · rw [← hx]
    exact bytesU_eq fun j hj => b2 j (by omega)
  · rw [← hy]
    refine bytesU_eq fun j hj => ?_
    have hij := i0 j (by omega)
    rw [byte_file (c := aS0) (by rw [u2, t3 _ _ (by omega), s2]; exact ho _ _) (h60.area hij.1 hij.2) (by decide) (by decide) hij.1, u3, f0, if_pos ⟨by omega, by omega⟩, Nat.add_sub_cancel_left]
  · rw [← hx]
    refine bytesU_eq fun j hj => ?_
    have e3 : (64 * (64 + k) + j) / 64 = 64 + k := by omega
    have hne : W5.own 2 (64 + k) ≠ none := by
      have := t5 0 (by rw [List.length_take]; omega)
      rwa [Nat.add_zero, show 64 * (64 + k) / 64 = 64 + k by omega] at this
    obtain ⟨f, hf⟩ := Option.ne_none_iff_exists'.1 hne
    have e6 : W6.byte 2 (64 * (64 + k) + j) = W5.byte 2 (64 * (64 + k) + j) := by
      rw [byte_own (W := W6) (f := f) (by rw [e3, u2]; exact hf), byte_own (W := W5) (f := f) (by rw [e3]; exact hf)]
    rw [e6, t7]
    by_cases c : j = 0
    · subst c
      rw [if_pos ⟨rfl, by omega, by rw [List.length_take]; omega⟩]
      cases xs with
      | nil => simp at hj
      | cons x xs => simp
    · rw [if_neg (by rw [List.length_take]; omega)]
      exact b2 j (by omega)
set_option maxRecDepth 20000 in
set_option maxHeartbeats 4000000 in
theorem shares_answers (A0 A1 : Option Addr) (l0 c0 l1 c1 pb : Nat) (w : World) (h : l0 = 0 ∨ 64 < l0 ∨ l1 ≠ l0) :
    Calls Tryz.prog 6 #[.slice A0 l0 c0, .slice A1 l1 c1, .int .u8 (pb : Int)] w fun e w' => e = .returned (.bool true) ∧ Below w.heap.size w w' := by
  by_cases a0 : l0 = 0
  · subst a0
    go_enter Tryz.func6, Tryz.ntmps6
    go_wp2_with fail
    refine (spaceAnswers_any w).mono ?_
    rintro e w1 ⟨rfl, hb⟩
    go_wp2
    go_ret
    exact ⟨rfl, hb⟩
  have t0 : ((l0 : Int) == 0) = false := by simp; omega
  by_cases a1 : 64 < l0
  · have t1 : decide ((64 : Int) < (l0 : Int)) = true := decide_eq_true (by omega)
    go_enter Tryz.func6, Tryz.ntmps6
    go_wp2_with fail
    refine (spaceAnswers_any w).mono ?_
    rintro e w1 ⟨rfl, hb⟩
    go_wp2
    go_ret
    exact ⟨rfl, hb⟩
  have t1 : decide ((64 : Int) < (l0 : Int)) = false := decide_eq_false (by omega)
  have t4 : ((l1 : Int) != (l0 : Int)) = true := by rw [bne_iff_ne]; omega
  go_enter Tryz.func6, Tryz.ntmps6
  go_wp2_with fail
  refine (spaceAnswers_any w).mono ?_
  rintro e w1 ⟨rfl, hb⟩
  go_wp2
  go_ret
  exact ⟨rfl, hb⟩
set_option maxRecDepth 20000 in
set_option maxHeartbeats 4000000 in
theorem spaceShares_any (v0 v1 : Value) (xs ys : List Nat) (pb : Nat) (w : World) (hv : Bts w w.heap.size v0 xs) (hv1 : Bts w w.heap.size v1 ys) (hp : pb < 256) :
    Calls Tryz.prog 6 #[v0, v1, .int .u8 (pb : Int)] w fun e w' => e = .returned (.bool true) ∧ Below w.heap.size w w' := by
  have HV := Lib.hid hv
  have HU := Lib.hid hv1
  obtain ⟨A0, l0, c0, rfl, e0, e0m, ⟨e0c, -⟩, e0d, -⟩ := hv
  obtain ⟨A1, l1, c1, rfl, e1, -⟩ := hv1
  have E0 := Lib.hid e0
  have E1 := Lib.hid e1
  clear e0 e1
  by_cases c : l0 = 0 ∨ 64 < l0 ∨ l1 ≠ l0
  · exact shares_answers A0 A1 l0 c0 l1 c1 pb w c
  · obtain rfl : l0 = l1 := by omega
    have t0 : ((l0 : Int) == 0) = false := by simp; omega
    have t1 : decide ((64 : Int) < (l0 : Int)) = false := decide_eq_false (by omega)
    have t4 : ((l0 : Int) != (l0 : Int)) = false := by simp
    unfold maxLen at e0m e0d
    have t6 : 1 ≤ c0 := by omega
    have t7 : (1 : Int) ≤ (c0 : Int) := by omega
    have t8 : c0 ≠ 0 := by omega
    obtain ⟨k, hk⟩ : ∃ k, k = pb % 16 := ⟨_, rfl⟩
    have hk16 : k < 16 := by omega
    have r1 : (pb : Int).tmod 16 = (k : Int) := by rw [Int.tmod_eq_emod_of_nonneg (by omega)]; omega
    have r1' : (pb : Int) % 16 = (k : Int) := by omega
    obtain ⟨q0, hq0⟩ : ∃ q0, q0 = 64 * k := ⟨_, rfl⟩
    obtain ⟨q1, hq1⟩ : ∃ q1, q1 = 64 * (32 + k) := ⟨_, rfl⟩
    obtain ⟨q2, hq2⟩ : ∃ q2, q2 = 64 * (64 + k) := ⟨_, rfl⟩
    obtain ⟨k1, hk1⟩ : ∃ k1, k1 = 32 + k := ⟨_, rfl⟩
    obtain ⟨k2, hk2⟩ : ∃ k2, k2 = 64 + k := ⟨_, rfl⟩
    have r2 : (64 : Int) * (k : Int) = (q0 : Int) := by omega
    have r3 : (32 : Int) + (k : Int) = (k1 : Int) := by omega
    have r4 : (64 : Int) + (k : Int) = (k2 : Int) := by omega
    have r5 : (64 : Int) * (k1 : Int) = (q1 : Int) := by omega
    have r6 : (64 : Int) * (k2 : Int) = (q2 : Int) := by omega
    have I0 := Lib.hid (show ∀ j, j < 64 → inAr aS0 (q0 + j) from fun j hj => by unfold inAr aS0; simp only; omega)
    have I1 := Lib.hid (show ∀ j, j < 64 → inAr aS1 (q1 + j) from fun j hj => by unfold inAr aS1; simp only; omega)
    have I2 := Lib.hid (show ∀ j, j < 64 → inAr aS2 (q2 + j) from fun j hj => by unfold inAr aS2; simp only; omega)
    have HP := Lib.hid (show k < 16 ∧ l0 ≠ 0 ∧ l0 ≤ 64 ∧ q0 < 1024 ∧ q1 < 4096 ∧ q2 < 8192 from ⟨hk16, by omega, by omega, by omega, by omega, by omega⟩)
    have HQ := Lib.hid (show q0 = 64 * k ∧ q1 = 64 * (32 + k) ∧ q2 = 64 * (64 + k) from ⟨hq0, hq1, hq2⟩)
    have HL := Lib.hid (show (xs.take 1).length = 1 from by rw [List.length_take, E0.out]; omega)
    clear hp hk hq0 hq1 hq2 hk1 hk2 c
    go_enter Tryz.func6, Tryz.ntmps6
    go_wp2_with fail
    refine (fresh_any 3 3 (by omega) (by omega) w).mono ?_
    intro e w1 hf
    obtain ⟨gS, gW, fl, rfl, ht1⟩ := SpT.begin hf
    have HT1 := Lib.hid ht1
    clear hf ht1
    go_wp2_with fail
    go_loopg [10] 3 (fun gg s10 wx => ∃ n : Nat, n + gg = 3 ∧ s10 = .int .i64 (n : Int) ∧ SpT w wx gS (spns fl n) (96 - n) 96 n [] [])
    case atStart => exact ⟨0, by omega, rfl, HT1.out⟩
    case round =>
      obtain ⟨n, hng, rfl, ht⟩ := hrel
      have HT2 := Lib.hid ht
      clear ht
      by_cases hlt : n < 3
      · have t9 : decide ((n : Int) < 3) = true := decide_eq_true (by omega)
        go_wp2_with fail
        refine (t_spns HT2.out hlt).mono ?_
        rintro e w3 ⟨rfl, ht⟩
        have HT3 := Lib.hid ht
        clear ht
        go_wp2_with fail
        go_roundg (3 - (n + 1))
        case measure => omega
        case rel => exact ⟨n + 1, by omega, by go_num, HT3.out⟩
      · obtain rfl : n = 3 := by omega
        have t9 : decide ((3 : Int) < 3) = false := rfl
        have HO2 := Lib.hid (fun m q => spns_own fl m q 3)
        have HR2 := Lib.hid (show ∀ m, m < 3 → (spns fl 3).pr m = some ⟨[], []⟩ from fun m hm => by rw [spns_pr, if_pos hm])
        obtain ⟨W2, hW2⟩ : ∃ W2, W2 = spns fl 3 := ⟨_, rfl⟩
        rw [← hW2] at HT2 HO2 HR2
        clear hW2
        go_wp2_with fail
        rw [show (#[.int .i64 0, .int .i64 16, .bool true, .int .i64 2, .int .i64 2, .int .i64 0] : Array Value) = (arL aS0).toArray from rfl]
        refine (t_of HT2.out fun K h => space_map1 0 [] aS0 (by decide) (by unfold soundA aS0; simp) (HR2.out 0 (by omega)) h).mono ?_
        rintro e w3 ⟨rfl, ht⟩
        have HT3 := Lib.hid ht
        clear ht
        go_wp2_with fail
        rw [show (#[.int .i64 32, .int .i64 16, .bool true, .int .i64 2, .int .i64 2, .int .i64 0] : Array Value) = (arL aS1).toArray from rfl]
        refine (t_of HT3.out fun K h => space_map1 1 [] aS1 (by decide) (by unfold soundA aS1; simp) ((ars_ne _ _ (by omega : (1 : Nat) ≠ 0)).trans (HR2.out 1 (by omega))) h).mono ?_
        rintro e w4 ⟨rfl, ht⟩
        have HT4 := Lib.hid ht
        clear ht
        go_wp2_with fail
        rw [show (#[.int .i64 64, .int .i64 16, .bool true, .int .i64 3, .int .i64 2, .int .i64 0] : Array Value) = (arL aS2).toArray from rfl]
        refine (t_of HT4.out fun K h => space_map1 2 [] aS2 (by decide) (by unfold soundA aS2; simp) ((ars_ne _ _ (by omega : (2 : Nat) ≠ 1)).trans ((ars_ne _ _ (by omega : (2 : Nat) ≠ 0)).trans (HR2.out 2 (by omega)))) h).mono ?_
        rintro e w5 ⟨rfl, ht⟩
        obtain ⟨W5, hW5⟩ : ∃ W5, W5 = arsU (arsU (arsU W2 0 [aS0]) 1 [aS1]) 2 [aS2] := ⟨_, rfl⟩
        rw [← hW5] at ht
        have HT5 := Lib.hid ht
        obtain ⟨g0, g1, g2⟩ := three HR2.out
        rw [← hW5] at g0 g1 g2
        obtain ⟨s1, s2, s3, s4, s5, s6, s7, s8, s9⟩ := shared (k := k) (l := l0) (xs := xs) (ys := ys) g0 g1 g2 (by rw [hW5]; exact HO2.out) hk16 E0.out E1.out ⟨by have := HP.out; omega, by have := HP.out; omega⟩
        rw [← HQ.out.1] at s1 s2 s3 s4 s5 s6 s7 s8 s9
        rw [← HQ.out.2.1] at s3 s6 s7 s8 s9
        rw [← HQ.out.2.2] at s4 s5 s6 s7 s8 s9
        obtain ⟨W6, hW6⟩ : ∃ W6, W6 = storeU W5 0 q0 xs := ⟨_, rfl⟩
        rw [← hW6] at s1 s2 s3 s4 s5 s6 s7 s8 s9
        obtain ⟨W7, hW7⟩ : ∃ W7, W7 = storeU W6 2 q2 (xs.take 1) := ⟨_, rfl⟩
        rw [← hW7] at s5 s6 s7 s8 s9
        obtain ⟨W8, hW8⟩ : ∃ W8, W8 = storeU W7 1 q1 ys := ⟨_, rfl⟩
        rw [← hW8] at s6 s7 s8 s9
        have G0 := Lib.hid g0
        have S1 := Lib.hid s1
        have S2 := Lib.hid s2
        have S3 := Lib.hid s3
        have S4 := Lib.hid s4
        have S5 := Lib.hid s5
        have S6 := Lib.hid s6
        have S7 := Lib.hid s7
        have S8 := Lib.hid s8
        have S9 := Lib.hid s9
        have HW6 := Lib.hid hW6
        have HW7 := Lib.hid hW7
        have HW8 := Lib.hid hW8
        clear s1 s2 s3 s4 s5 s6 s7 s8 s9 g0 g1 g2 hW5 hW6 hW7 hW8 ht
        go_wp2_with fail
        refine (t_in HT5.out HV.out fun K h hb ho => space_store gS K _ 84 92 3 w5 0 q0 _ xs _ G0.out rfl hb ho (by have := HP.out; have := E0.out; omega) (by have := HP.out; have := E0.out; omega) (fun j hj => I0.out j (by have := HP.out; have := E0.out; omega)) h).mono ?_
        rintro e w6 ⟨rfl, ht⟩
        rw [← HW6.out] at ht
        have HT6 := Lib.hid ht
        clear ht
        go_wp2_with fail
        refine (t_load HT6.out fun K h => space_load gS K _ 78 88 9 w6 1 q1 l0 S1.out.pr_ne (by have := HP.out; omega) (by have := HP.out; omega) (mayAll_one S1.out (fun h => by cases h) (fun j hj => I1.out j (by have := HP.out; omega))) h).mono ?_
        rintro e w7 ⟨v7, rfl, ht⟩
        rw [S3.out] at ht
        have HT7 := Lib.hid ht
        clear ht
        go_wp2_with fail
        refine (t_load HT7.out fun K h => space_load gS K _ 72 84 15 w7 2 q2 l0 S2.out.pr_ne (by have := HP.out; omega) (by have := HP.out; omega) (mayAll_one S2.out (fun h => by cases h) (fun j hj => I2.out j (by have := HP.out; omega))) h).mono ?_
        rintro e w8 ⟨v8, rfl, ht⟩
        rw [S4.out] at ht
        have HT8 := Lib.hid ht
        clear ht
        go_wp2_with fail
        refine (t_in HT8.out (HV.out.front 1 (by have := HP.out; omega)) fun K h hb ho => space_store gS K _ 66 80 21 w8 2 q2 _ (xs.take 1) _ S2.out rfl hb ho (by have := HP.out; have := HL.out; omega) (by have := HP.out; have := HL.out; omega) (fun j hj => I2.out j (by have := HP.out; have := HL.out; omega)) h).mono ?_
        rintro e w9 ⟨rfl, ht⟩
        rw [← HW7.out] at ht
        have HT9 := Lib.hid ht
        clear ht
        go_wp2_with fail
        refine (t_in HT9.out HU.out fun K h hb ho => space_store gS K _ 60 76 27 w9 1 q1 _ ys _ S5.out rfl hb ho (by have := HP.out; have := E1.out; omega) (by have := HP.out; have := E1.out; omega) (fun j hj => I1.out j (by have := HP.out; have := E1.out; omega)) h).mono ?_
        rintro e w10 ⟨rfl, ht⟩
        rw [← HW8.out] at ht
        have HT10 := Lib.hid ht
        clear ht
        go_wp2_with fail
        refine (t_load HT10.out fun K h => space_load gS K _ 54 72 33 w10 0 q0 l0 S6.out.pr_ne (by have := HP.out; omega) (by have := HP.out; omega) (mayAll_one S6.out (fun h => by cases h) (fun j hj => I0.out j (by have := HP.out; omega))) h).mono ?_
        rintro e w11 ⟨v11, rfl, ht⟩
        rw [S8.out] at ht
        have HT11 := Lib.hid ht
        clear ht
        go_wp2_with fail
        refine (t_load HT11.out fun K h => space_load gS K _ 48 68 39 w11 2 q2 l0 S7.out.pr_ne (by have := HP.out; omega) (by have := HP.out; omega) (mayAll_one S7.out (fun h => by cases h) (fun j hj => I2.out j (by have := HP.out; omega))) h).mono ?_
        rintro e w12 ⟨v12, rfl, ht⟩
        rw [S9.out] at ht
        have HT12 := Lib.hid ht
        clear ht
        have hx1 := HT12.out.bts (List.mem_cons_self ..)
        have hx2 := HT12.out.bts (List.mem_cons_of_mem _ (List.mem_cons_self ..))
        have hx3 := HT12.out.bts (List.mem_cons_of_mem _ (List.mem_cons_of_mem _ (List.mem_cons_self ..)))
        have hx4 := HT12.out.bts (List.mem_cons_of_mem _ (List.mem_cons_of_mem _ (List.mem_cons_of_mem _ (List.mem_cons_self ..))))
        obtain ⟨A12, n12, c12, rfl, -⟩ := id hx1
        obtain ⟨A11, n11, c11, rfl, -⟩ := id hx2
        obtain ⟨A8, n8, c8, rfl, -⟩ := id hx3
        obtain ⟨A7, n7, c7, rfl, -⟩ := id hx4
        clear hx1 hx2 hx3 hx4
        go_wp2_with fail
        refine (spaceAnswers_any w12).mono ?_
        rintro e w13 ⟨rfl, hb⟩
        have HT13 := Lib.hid (HT12.out.fresh hb)
        have HB13 := Lib.hid HT13.out.below
        have X1 := Lib.hid (HT13.out.bts (List.mem_cons_self ..))
        have X2 := Lib.hid (HT13.out.bts (List.mem_cons_of_mem _ (List.mem_cons_self ..)))
        have X3 := Lib.hid (HT13.out.bts (List.mem_cons_of_mem _ (List.mem_cons_of_mem _ (List.mem_cons_self ..))))
        have X4 := Lib.hid (HT13.out.bts (List.mem_cons_of_mem _ (List.mem_cons_of_mem _ (List.mem_cons_of_mem _ (List.mem_cons_self ..)))))
        have Y0 := Lib.hid (HV.out.below HB13.out)
        have Y1 := Lib.hid (HU.out.below HB13.out)
        clear hb
        go_wp2_with fail
        refine (same_any _ _ _ _ _ _ _ X4.out Y0.out).mono ?_
        rintro e w14 ⟨rfl, m1, rfl⟩
        rw [decide_eq_true rfl]
        go_wp2_with fail
        refine (same_any _ _ _ _ _ _ _ (X3.out.drewN (n := m1)) (Y0.out.drewN (n := m1))).mono ?_
        rintro e w15 ⟨rfl, m2, rfl⟩
        rw [decide_eq_true rfl]
        rw [World.drewN_drewN]
        go_wp2_with fail
        refine (same_any _ _ _ _ _ _ _ (X2.out.drewN (n := m1 + m2)) (Y1.out.drewN (n := m1 + m2))).mono ?_
        rintro e w16 ⟨rfl, m3, rfl⟩
        rw [decide_eq_true rfl]
        rw [World.drewN_drewN]
        go_wp2_with fail
        refine (same_any _ _ _ _ _ _ _ (X1.out.drewN (n := m1 + m2 + m3)) (Y0.out.drewN (n := m1 + m2 + m3))).mono ?_
        rintro e w17 ⟨rfl, m4, rfl⟩
        rw [decide_eq_true rfl]
        rw [World.drewN_drewN]
        have HB17 := Lib.hid (below_drewN HB13.out (m1 + m2 + m3 + m4))
        go_wp2
        go_ret
        exact ⟨rfl, HB17.out⟩
end Go.Proofs.YtgjkdnpidobabaaGreat

