/-
  WordSums answers true for any three lists of bytes, and writes nothing that was there.
  Conditions: each list is within the reach that every row has of itself.
-/
import Derived.Test.YtbnnjlaijhdbkaaAnswers
namespace Go.Proofs.Ytbnnjlaijhdbkaa
open Go.RowKit
set_option linter.unusedVariables false

theorem Parts.of_blk {w : World} {g : Nat} {t : TypeId} {cs : Array Value} {B n cap : Nat} {xss : List (List Nat)} (h : Blk w g t cs) (hl : xss.length = n) (hm : n ≤ maxLen)
    (hp : ∀ j, j < n → ∃ u, cs[j]? = some u ∧ Bts w B u (xss.getD j [])) : Parts w B (.slice (some ⟨g, 0, none⟩) n cap) xss :=
  ⟨_, _, _, rfl, hl, hm, fun _ => ⟨g, 0, rfl, fun j hj => by
    obtain ⟨u, h1, h2⟩ := hp j hj
    exact ⟨u, by rw [h.cell, Nat.zero_add]; exact h1, h2⟩⟩⟩

/-- The sum of parts that were just laid in one block. -/
theorem sum_parts (w : World) (t : TypeId) (cs : Array Value) (n cap B : Nat) (xss : List (List Nat)) (S : Int) (hl : xss.length = n) (hm : n ≤ 100) (hB : B ≤ w.heap.size)
    (hp : ∀ j, j < n → ∃ u, cs[j]? = some u ∧ Bts w B u (xss.getD j [])) (hS : S = sumU xss.flatten) :
    Calls Try.prog 14 #[.slice (some ⟨w.heap.size, 0, none⟩) n cap] (w.alloc (.cells cs t)) fun e w' => e = .returned (.int .u32 S) ∧ w.alloc (.cells cs t) = w' := by
  rw [hS]
  refine sum_any _ xss B _ (Parts.of_blk (Blk.new w t cs) hl (by unfold maxLen; omega) (fun j hj => ?_))
  obtain ⟨u, h1, h2⟩ := hp j hj
  exact ⟨u, h1, h2.keep fun p hp => World.cell?_alloc_lt w _ p (by omega)⟩

set_option maxHeartbeats 800000 in
theorem sums_big (A A' A'' : Option Addr) (l c l' c' l'' c'' : Nat) (w : World) (h1 : l ≤ 140737488351232) (h2 : l' ≤ 140737488351232) (h3 : l'' ≤ 140737488351232) (hbig : 3000 < l + l' + l'') :
    Calls Try.prog 4 #[.slice A l c, .slice A' l' c', .slice A'' l'' c''] w fun e w' => e = .returned (.bool true) ∧ Below w.heap.size w w' := by
  go_enter Try.func4, Try.ntmps4
  go_wp2_with (go_at_call 8; refine (answers_any _).mono ?_; rintro e w1 ⟨rfl, hb1⟩)
  go_ret
  exact ⟨rfl, hb1⟩

set_option maxHeartbeats 800000 in
theorem sums_small (v0 v1 v2 : Value) (xs ys zs : List Nat) (w : World) (h0 : Bts w w.heap.size v0 xs) (h1 : Bts w w.heap.size v1 ys) (h2 : Bts w w.heap.size v2 zs) (hsm : xs.length + ys.length + zs.length ≤ 3000) :
    Calls Try.prog 4 #[v0, v1, v2] w fun e w' => e = .returned (.bool true) ∧ Below w.heap.size w w' := by
  have H0 := Lib.hid h0
  have H1 := Lib.hid h1
  have H2 := Lib.hid h2
  obtain ⟨A0, l0, c0, rfl, e0, -⟩ := h0
  obtain ⟨A1, l1, c1, rfl, e1, -⟩ := h1
  obtain ⟨A2, l2, c2, rfl, e2, -⟩ := h2
  have E0 := Lib.hid e0
  have E1 := Lib.hid e1
  have E2 := Lib.hid e2
  rw [e0, e1, e2] at hsm
  clear e0 e1 e2
  obtain ⟨i0, hi, hz0, hz1, hz2⟩ := info_parts Try.info5
  have HI := Lib.hid hi
  have HZ0 := Lib.hid hz0
  have HZ1 := Lib.hid hz1
  have HZ2 := Lib.hid hz2
  clear hi hz0 hz1 hz2
  have HN := Lib.hid (own_empty w 5)
  have HB := Lib.hid (show Below w.heap.size w (w.alloc (.cells #[] 5)) from (Below.refl _ _).alloc (Nat.le_refl _) _)
  have hd : decide ((3000 : Int) < (l0 : Int) + (l1 : Int) + (l2 : Int)) = false := by simp; omega
  go_enter Try.func4, Try.ntmps4
  go_wp2_with (first
    | (at_builtin; refine wpList_append_bts rfl (.tmp 18) (.tmp 19) 22 rfl w.heap.size 5 i0 Try.underlying22 HI.out HZ0.out HZ1.out HZ2.out _ 0 [] rfl HN.out _ xs rfl w.heap.size (H0.out.below HB.out) (by have := E0.out; have := E1.out; have := E2.out; omega) HB.out.size ?_; intro v3 w3 O3 B3)
    | (at_builtin; refine wpList_append_bts rfl (.tmp 20) (.tmp 21) 22 rfl w.heap.size 5 i0 Try.underlying22 HI.out HZ0.out HZ1.out HZ2.out v3 (0 + xs.length) ([] ++ xs) rfl O3.out _ ys rfl w.heap.size (H1.out.below (HB.out.trans B3.out)) (by have := E0.out; have := E1.out; have := E2.out; omega) (HB.out.trans B3.out).size ?_; intro v4 w4 O4 B4)
    | (at_builtin; refine wpList_append_bts rfl (.tmp 22) (.tmp 23) 22 rfl w.heap.size 5 i0 Try.underlying22 HI.out HZ0.out HZ1.out HZ2.out v4 (0 + xs.length + ys.length) ([] ++ xs ++ ys) rfl O4.out _ zs rfl w.heap.size (H2.out.below ((HB.out.trans B3.out).trans B4.out)) (by have := E0.out; have := E1.out; have := E2.out; omega) ((HB.out.trans B3.out).trans B4.out).size ?_; intro v5 w5 O5 B5))
  have HX := Lib.hid (show Bts w5 w5.heap.size v5 (xs ++ ys ++ zs) from by
    have h := O5.out
    rw [List.nil_append] at h
    refine Bts.of_own h (fun y hy => ?_)
    rcases List.mem_append.1 hy with hy | hy
    · rcases List.mem_append.1 hy with hy | hy
      · exact H0.out.byte y hy
      · exact H1.out.byte y hy
    · exact H2.out.byte y hy)
  have HW := Lib.hid (((HB.out.trans B3.out).trans B4.out).trans B5.out)
  clear O3 O4 O5 B3 B4 B5 HN HB HI HZ0 HZ1 HZ2
  obtain ⟨A5, n5, c5, h5, -⟩ := HX.out
  subst h5
  obtain ⟨S, hS⟩ : ∃ S, S = sumU (xs ++ ys ++ zs) := ⟨_, rfl⟩
  have HS := Lib.hid hS
  clear hS
  refine (answers_any _).mono ?_
  rintro e w6 ⟨rfl, hb6⟩
  have H6 := Lib.hid (HW.out.trans (hb6.mono HW.out.size))
  have HX6 := Lib.hid (HX.out.below hb6)
  have Z6 := Lib.hid hb6.size
  clear hb6
  go_wp2_with fail
  refine (sum_parts w6 22 _ 3 3 w.heap.size [xs, ys, zs] S rfl (by omega) H6.out.size (fun j hj => match j, hj with
    | 0, _ => ⟨_, rfl, H0.out.below H6.out⟩ | 1, _ => ⟨_, rfl, H1.out.below H6.out⟩ | 2, _ => ⟨_, rfl, H2.out.below H6.out⟩) (by rw [HS.out]; simp)).mono ?_
  rintro e w7 ⟨rfl, rfl⟩
  have H7 := Lib.hid (show Bts (w6.alloc (.cells #[.slice A0 l0 c0, .slice A1 l1 c1, .slice A2 l2 c2] 22)) w5.heap.size (.slice A5 n5 c5) (xs ++ ys ++ zs) from
    HX6.out.keep fun p hp => World.cell?_alloc_lt w6 _ p (by have := Z6.out; omega))
  go_wp2_with fail
  refine (refSum_any _ _ _ _ H7.out).mono ?_
  rintro e w8 ⟨rfl, rfl⟩
  rw [← HS.out]
  obtain ⟨w7, h7⟩ : ∃ w7, w7 = w6.alloc (.cells #[.slice A0 l0 c0, .slice A1 l1 c1, .slice A2 l2 c2] 22) := ⟨_, rfl⟩
  have B7 := Lib.hid (show Below w.heap.size w w7 from by rw [h7]; exact H6.out.alloc H6.out.size _)
  rw [← h7] at H7 ⊢
  have Z7 := Lib.hid (show w5.heap.size ≤ w7.heap.size from by rw [h7]; simp; have := Z6.out; omega)
  clear h7
  go_wp2_with fail
  refine (sum_parts w7 22 _ 1 1 w5.heap.size [xs ++ ys ++ zs] S rfl (by omega) Z7.out (fun j hj => match j, hj with
    | 0, _ => ⟨_, rfl, H7.out⟩) (by rw [HS.out]; simp)).mono ?_
  rintro e w8 ⟨rfl, rfl⟩
  obtain ⟨w8, h8⟩ : ∃ w8, w8 = w7.alloc (.cells #[.slice A5 n5 c5] 22) := ⟨_, rfl⟩
  have B8 := Lib.hid (show Below w.heap.size w w8 from by rw [h8]; exact B7.out.alloc B7.out.size _)
  rw [← h8]
  clear h8
  go_wp2_with fail
  refine (sum_parts w8 22 _ 4 4 w.heap.size [xs, [], ys, zs] S rfl (by omega) B8.out.size (fun j hj => match j, hj with
    | 0, _ => ⟨_, rfl, H0.out.below B8.out⟩ | 1, _ => ⟨_, rfl, Bts.nil_ _ _⟩ | 2, _ => ⟨_, rfl, H1.out.below B8.out⟩ | 3, _ => ⟨_, rfl, H2.out.below B8.out⟩) (by rw [HS.out]; simp)).mono ?_
  rintro e w9 ⟨rfl, rfl⟩
  go_wp2
  go_ret
  exact ⟨by simp, B8.out.alloc B8.out.size _⟩
end Go.Proofs.Ytbnnjlaijhdbkaa
