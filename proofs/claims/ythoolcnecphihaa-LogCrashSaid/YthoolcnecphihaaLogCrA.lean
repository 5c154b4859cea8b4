/-
  What a crash leaves of a log whose last record was being written, and Fuse of a number below 0.
  Conditions: none beside those that each line bears.
-/
import Derived.Test.YthoolcnecphihaaLogBack
import Derived.Test.YthoolcnecphihaaLstB
namespace Go.Proofs.Ythoolcnecphihaa
open Go.RowKit
set_option linter.unusedVariables false

set_option maxHeartbeats 400000 in
theorem fuse_low (gD gS gM n : Nat) (S : Nat → List Nat) (L : Nat → Option (List Nat)) (t : Tr) (a : Int) (w : World) (h : Dsk w gD gS gM n S L t) (ha : a < 0) :
    Calls Try.prog 20 #[.pointer (some ⟨gD, 0, none⟩), .int .i64 a] w (TrPost w gD gS gM n S L ⟨t.good, t.failed, true, 0, t.down⟩) := by
  have HD := Lib.hid h
  have f4 := h.1.frozen 4
  have f5 := h.1.frozen 5
  have c4 : w.cell? ⟨gD, 4, none⟩ = some (.bool t.fused) := h.cell 4
  have c5 : w.cell? ⟨gD, 5, none⟩ = some (.int .i64 t.left) := h.cell 5
  have d1 : decide (a < 0) = true := decide_eq_true ha
  have d2 : max a 0 = 0 := by omega
  clear h
  go_enter Try.func20, Try.ntmps20
  go_wp2
  go_end0
  exact ⟨rfl, HD.out.turned ⟨HD.out.2.1.1, HD.out.2.1.2.1, Nat.zero_le _⟩ ((HD.out.1.set_ 4 (.bool true)).set_ 5 (.int .i64 (0 : Nat))) (((Only.refl _ _).setCell _ _).setCell _ _), ((Only.refl _ _).setCell _ _).setCell _ _⟩

theorem keysL_one (n i : Nat) (x : List Nat) (h : i < n) : keysL n (upd (fun _ => none) i (some x)) = [i] := by
  have h1 : ∀ n, i < n → keysL n (upd (fun _ => none) i (some x)) = [i] := by
    intro n
    induction n with
    | zero => intro h; omega
    | succ n ih =>
      intro h
      unfold keysL at ih ⊢
      rw [List.range_succ, List.filter_append]
      by_cases e : i = n
      · subst e
        have h0 : (List.range i).filter (fun j => ((upd (fun _ => none) i (some x) : Nat → Option (List Nat)) j).isSome) = [] := by
          rw [List.filter_eq_nil_iff]
          intro j hj
          rw [upd_other _ _ _ (by have := List.mem_range.1 hj; omega)]
          simp
        rw [h0]
        simp [upd_same]
      · rw [ih (by omega)]
        have h2 : (upd (fun _ => none) i (some x) : Nat → Option (List Nat)) n = none := by rw [upd_other _ _ _ (by omega)]
        simp [h2]
  exact h1 n h
/-- What Replay may answer behind a crash. -/
def CrashOK (S : Nat → List Nat) (L : Nat → Option (List Nat)) (now thn : List (List Nat)) : Prop :=
  ∀ (K tn : Nat) (torn : Int) (m : Nat), Near64 torn tn → Stop (crashL S L (keptL (keysL 192 L) K) tn) 9 m →
    pays (crashL S L (keptL (keysL 192 L) K) tn) m = now ∨ pays (crashL S L (keptL (keysL 192 L) K) tn) m = thn ∨ (0 < torn ∧ torn < 64)
theorem crashOK_none {ks thn : List (List Nat)} (hl : ks.length ≤ 64) (hk : ∀ j, j < ks.length → (ks.getD j []).length ≤ 50) : CrashOK (bkS 9 ks) (fun _ => none) ks thn := by
  intro K tn torn m _ hs
  have e : crashL (bkS 9 ks) (fun _ => none) (keptL (keysL 192 (fun _ => none)) K) tn = bkS 9 ks := by
    rw [keysL_none]
    rfl
  rw [e] at hs ⊢
  obtain rfl : m = ks.length := hs.uniq (bkS_stop hl hk) (fun j _ => rfl)
  exact .inl (bkS_pays hk)
theorem over_none (xs : List Nat) : over xs 0 [] = xs := by simp [over]
theorem bkS_zer (gen : Nat) (ks : List (List Nat)) : upd (bkS gen ks) ks.length zer = bkS gen ks := by
  funext j
  unfold upd
  split
  · rename_i h
    subst h
    exact (bkS_behind (Nat.le_refl _)).symm
  · rfl
theorem crashOK_loose {ks : List (List Nat)} {x : List Nat} (hl : ks.length < 60) (hk : ∀ j, j < ks.length → (ks.getD j []).length ≤ 50) (hx : x.length ≤ 50) :
    CrashOK (bkS 9 ks) (upd (fun _ => none) ks.length (some (secL 9 ks.length x))) ks (ks ++ [x]) := by
  intro K tn torn m hn hs
  have hk' : ∀ j, j < (ks ++ [x]).length → ((ks ++ [x]).getD j []).length ≤ 50 := by
    intro j hj
    simp only [List.getD_eq_getElem?_getD]
    by_cases c : j < ks.length
    · rw [List.getElem?_append_left c, ← List.getD_eq_getElem?_getD]
      exact hk j c
    · rw [List.getElem?_append_right (by omega), show j - ks.length = 0 by simp at hj; omega]
      simpa using hx
  have hlen := secL_length 9 ks.length x hx
  have key : crashL (bkS 9 ks) (upd (fun _ => none) ks.length (some (secL 9 ks.length x))) (keptL [ks.length] K) tn = bkS 9 ks ∨
      crashL (bkS 9 ks) (upd (fun _ => none) ks.length (some (secL 9 ks.length x))) (keptL [ks.length] K) tn = bkS 9 (ks ++ [x]) ∨ (0 < torn ∧ torn < 64) := by
    have hk1 : keptL [ks.length] K = [] ∨ keptL [ks.length] K = [ks.length] := by
      have h : keptL [ks.length] K = if K.testBit 0 = true then [ks.length] else [] := rfl
      rw [h]
      split
      · exact .inr rfl
      · exact .inl rfl
    rcases hk1 with hk1 | hk1
    · rw [hk1]
      exact .inl rfl
    · rw [hk1]
      have e : crashL (bkS 9 ks) (upd (fun _ => none) ks.length (some (secL 9 ks.length x))) [ks.length] tn = upd (bkS 9 ks) ks.length (over (bkS 9 ks ks.length) 0 ((secL 9 ks.length x).take tn)) := by
        show upd (bkS 9 ks) ks.length (over (bkS 9 ks ks.length) 0 ((((upd (fun _ => none) ks.length (some (secL 9 ks.length x)) : Nat → Option (List Nat)) ks.length).getD zer).take (if 0 + 1 = [ks.length].length then tn else 64))) = _
        rw [upd_same]
        rfl
      rw [e, bkS_behind (Nat.le_refl _)]
      rcases hn with ⟨_, rfl⟩ | ⟨_, rfl⟩ | ⟨h1, h2, h3⟩
      · left
        rw [List.take_zero, over_none, bkS_zer]
      · right; left
        rw [List.take_of_length_le (by omega), over_all _ _ (by rw [zer_length, hlen]), bkS_step]
      · by_cases c0 : tn = 0
        · left
          rw [c0, List.take_zero, over_none, bkS_zer]
        · by_cases c64 : tn = 64
          · right; left
            rw [c64, List.take_of_length_le (by omega), over_all _ _ (by rw [zer_length, hlen]), bkS_step]
          · right; right
            omega
  rw [keysL_one 192 ks.length _ (by omega)] at hs ⊢
  rcases key with key | key | key
  · rw [key] at hs ⊢
    obtain rfl : m = ks.length := hs.uniq (bkS_stop (by omega) hk) (fun j _ => rfl)
    exact .inl (bkS_pays hk)
  · rw [key] at hs ⊢
    obtain rfl : m = (ks ++ [x]).length := hs.uniq (bkS_stop (by simp; omega) hk') (fun j _ => rfl)
    exact .inr (.inl (bkS_pays hk'))
  · exact .inr (.inr key)
/-- What is still to come of a Fuse behind so many works. -/
def fusT (f : Nat) : Tr := ⟨0, 0, true, f, false⟩
theorem fusT_ans0 : (fusT 0).ans = 9 := rfl
theorem fusT_ans (f : Nat) (h : 0 < f) : (fusT f).ans = 0 := by
  unfold Tr.ans fusT
  rw [if_neg (by simp; omega), if_neg (by simp), if_neg (by simp)]
theorem fusT_next (f : Nat) (h : 0 < f) : (fusT f).next = fusT (f - 1) := by
  unfold Tr.next fusT
  rw [if_neg (by simp; omega)]
  simp
end Go.Proofs.Ythoolcnecphihaa
