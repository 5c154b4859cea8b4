/-
  The contracts of word's Get, Put and Sum, and of the document's own; bytes in the program's numbering.
  Conditions: those that each line bears.
-/
import Derived.Test.YtfnegbcpiejdaaaProg
import Derived.Test.YtfnegbcpiejdaaaBas
import Derived.WalkKit
import Derived.WalkSpells
import Derived.Lib.Hide
import Derived.Deep.QuietTactic
import Derived.BigQuiet

/-! ## Get: The contracts of word.fits and word.Get: the number of the bytes at a place, or 0 and false; nothing is changed.   Conditions: the bytes are read in memory. -/
namespace Go.Proofs.Ytfnegbcpiejdaaa
open Go.RowKit
set_option linter.unusedVariables false

/-- The places that may be: n bytes from at on in a list of l bytes. -/
def Fit (l : Nat) (at_ n : Int) : Prop := 0 ≤ n ∧ n ≤ 8 ∧ 0 ≤ at_ ∧ at_ + n ≤ l
def NoFit (l : Nat) (at_ n : Int) : Prop := n < 0 ∨ 8 < n ∨ at_ < 0 ∨ l < at_ + n
theorem fit_or (l : Nat) (at_ n : Int) : Fit l at_ n ∨ NoFit l at_ n := by unfold Fit NoFit; omega

set_option maxRecDepth 20000 in
set_option maxHeartbeats 400000 in
theorem fits_yes (A : Option Addr) (l c : Nat) (at_ n : Int) (w : World) (hl : l ≤ maxLen) (h : Fit l at_ n) :
    Calls Try.prog 89 #[.slice A l c, .int .i64 at_, .int .i64 n] w fun e w' => e = .returned (.bool true) ∧ w = w' := by
  unfold maxLen at hl
  obtain ⟨h1, h2, h3, h4⟩ := h
  have h5 : decide (at_ ≤ (l : Int) - n) = true := by simp; omega
  go_enter Try.func89, Try.ntmps89
  go_wp2
  go_ret
  exact ⟨rfl, rfl⟩

set_option maxRecDepth 20000 in
set_option maxHeartbeats 400000 in
theorem fits_no (A : Option Addr) (l c : Nat) (at_ n : Int) (w : World) (hl : l ≤ maxLen) (h : NoFit l at_ n) :
    Calls Try.prog 89 #[.slice A l c, .int .i64 at_, .int .i64 n] w fun e w' => e = .returned (.bool false) ∧ w = w' := by
  unfold maxLen at hl
  unfold NoFit at h
  by_cases h1 : n < 0
  · clear h
    go_enter Try.func89, Try.ntmps89
    go_wp2
    go_ret
    exact ⟨rfl, rfl⟩
  · have h1' : 0 ≤ n := by omega
    by_cases h2 : 8 < n
    · clear h
      go_enter Try.func89, Try.ntmps89
      go_wp2
      go_ret
      exact ⟨rfl, rfl⟩
    · have h2' : n ≤ 8 := by omega
      by_cases h3 : at_ < 0
      · clear h
        go_enter Try.func89, Try.ntmps89
        go_wp2
        go_ret
        exact ⟨rfl, rfl⟩
      · have h3' : 0 ≤ at_ := by omega
        have h4 : decide (at_ ≤ (l : Int) - n) = false := by simp; omega
        clear h
        go_enter Try.func89, Try.ntmps89
        go_wp2
        go_ret
        exact ⟨rfl, rfl⟩

theorem ret_u64_bool {a b : Int} {t : Bool} (h : a = b) : Ending.returned (.tuple #[.int .u64 a, .bool t]) = .returned (.tuple #[.int .u64 b, .bool t]) := by rw [h]

/-- What Get answers. -/
def getV (xs : List Nat) (at_ n : Int) : Int := ((le (win xs at_.toNat n.toNat) : Nat) : Int)

set_option maxRecDepth 20000 in
set_option maxHeartbeats 400000 in
theorem get_yes (v : Value) (xs : List Nat) (B : Nat) (at_ n : Int) (w : World) (h : Bts w B v xs) (hf : Fit xs.length at_ n) :
    Calls Try.prog 77 #[v, .int .i64 at_, .int .i64 n] w fun e w' => e = .returned (.tuple #[.int .u64 (getV xs at_ n), .bool true]) ∧ w = w' := by
  obtain ⟨A, l, c, rfl, hl, hm, _, _, hb, hx⟩ := h
  have HM := Lib.hid hm
  unfold maxLen at hm
  obtain ⟨h1, h2, h3, h4⟩ := hf
  obtain ⟨a, rfl⟩ := Int.eq_ofNat_of_zero_le h3
  obtain ⟨m, rfl⟩ := Int.eq_ofNat_of_zero_le h1
  have h5 : a + m ≤ l := by omega
  have h6 : m ≤ 8 := by omega
  have HF := Lib.hid (fits_yes A l c a m w HM.out ⟨h1, h2, h3, by rw [← hl]; exact h4⟩)
  clear h1 h2 h3 h4
  have HL := Lib.hid hl
  clear hl
  have HB := Lib.hid hb
  clear hb
  have HX := Lib.hid hx
  clear hx
  go_enter Try.func77, Try.ntmps77
  go_wp2_with (go_at_call 89; refine (HF.out).mono ?_; rintro e w' ⟨rfl, rfl⟩)
  go_loop [8, 16] (fun s i => ∃ k : Nat, k ≤ m ∧ i = .int .i64 k ∧ s = .int .u64 ((le (win xs a k) : Nat) : Int)) (fun _ i => m - (intOf i).toNat)
  case atStart => exact ⟨0, Nat.zero_le _, rfl, by rw [win, List.take_zero]; rfl⟩
  case round =>
    obtain ⟨k, hk, rfl, rfl⟩ := hrel
    by_cases hlt : k < m
    · obtain ⟨b, off, rfl, _, hc⟩ := HX.out (by omega)
      have hcell := hc (a + k) (by omega)
      have hx8 := HB.out (a + k) (by omega)
      obtain ⟨y, hy⟩ : ∃ y, y = xs.getD (a + k) 0 := ⟨_, rfl⟩
      rw [← hy] at hcell hx8
      have HS := Lib.hid (show le (win xs a (k + 1)) = le (win xs a k ++ [y]) by rw [win_snoc xs a k (by rw [HL.out]; omega), hy])
      clear hc hy
      have hx0 : (0 : Int) ≤ (y : Int) := by omega
      have hx1 : (y : Int) < 256 := by omega
      go_wp2
      go_round
      case rel =>
        refine ⟨k + 1, by omega, by go_num, ?_⟩
        rw [HS.out, le_or (win xs a k) k y (win_length _ _ _ (by rw [HL.out]; omega)) (by omega) (win_byte _ _ _ (by rw [HL.out]; exact HB.out)) hx8]
      case measure => simp [intOf]; omega
    · obtain rfl : k = m := by omega
      go_wp2
      go_ret2
      exact ⟨ret_u64_bool (by unfold getV; simp), rfl⟩

set_option maxRecDepth 20000 in
set_option maxHeartbeats 400000 in
theorem get_no (A : Option Addr) (l c : Nat) (at_ n : Int) (w : World) (hl : l ≤ maxLen) (hf : NoFit l at_ n) :
    Calls Try.prog 77 #[.slice A l c, .int .i64 at_, .int .i64 n] w fun e w' => e = .returned (.tuple #[.int .u64 0, .bool false]) ∧ w = w' := by
  have HF := Lib.hid (fits_no A l c at_ n w hl hf)
  clear hf
  go_enter Try.func77, Try.ntmps77
  go_wp2_with (go_at_call 89; refine (HF.out).mono ?_; rintro e w' ⟨rfl, rfl⟩)
  go_ret2
  exact ⟨rfl, rfl⟩
end Go.Proofs.Ytfnegbcpiejdaaa

/-! ## Sum: The contracts of word.Sum and of the document's own Sum: both answer the sum of all bytes, one behind the other, and change nothing.   Conditions: the parts are read in memory. -/
namespace Go.Proofs.Ytfnegbcpiejdaaa
open Go.RowKit

theorem ret_u32 {a b : Int} (h : a = b) : Ending.returned (.int .u32 a) = .returned (.int .u32 b) := by rw [h]

theorem sum_step (xs : List Nat) (k : Nat) (hk : k < xs.length) (hb : xs.getD k 0 < 256) :
    IntKind.u64.wrap (bits .xor .u64 (sumI (xs.take k)) ((xs[k]?.getD 0 : Nat) : Int) * 1099511628211) = sumI (xs.take (k + 1)) := by
  have e : xs.take (k + 1) = xs.take k ++ [xs.getD k 0] := by
    rw [List.take_succ_eq_append_getElem hk]
    simp [hk]
  rw [e]
  simp only [List.getD_eq_getElem?_getD] at hb ⊢
  exact sumI_snoc _ _ hb

set_option maxRecDepth 20000 in
set_option maxHeartbeats 400000 in
theorem refSum_any (v : Value) (xs : List Nat) (B : Nat) (w : World) (h : Bts w B v xs) :
    Calls Try.prog 67 #[v] w fun e w' => e = .returned (.int .u32 (sumU xs)) ∧ w = w' := by
  obtain ⟨A, n, c, rfl, hl, hm, _, _, hb, hx⟩ := h
  unfold maxLen at hm
  have HL := Lib.hid hl
  clear hl
  have HB := Lib.hid hb
  clear hb
  have HX := Lib.hid hx
  clear hx
  have HS := Lib.hid sumI_nil
  go_enter Try.func67, Try.ntmps67
  go_wp2
  go_loop [3, 4] (fun s i => ∃ k : Nat, k ≤ n ∧ i = .int .i64 k ∧ s = .int .u64 (sumI (xs.take k))) (fun _ i => n - (intOf i).toNat)
  case atStart => exact ⟨0, Nat.zero_le _, rfl, by rw [List.take_zero, HS.out]⟩
  case round =>
    obtain ⟨k, hk, rfl, rfl⟩ := hrel
    have h0 : 0 ≤ sumI (xs.take k) := sumI_nonneg _
    by_cases hlt : k < n
    · obtain ⟨b, off, rfl, _, hc⟩ := HX.out (by omega)
      have hcell := hc k hlt
      have hbb : (0 : Int) ≤ ((xs[k]?.getD 0 : Nat) : Int) ∧ ((xs[k]?.getD 0 : Nat) : Int) < 256 := by
        have := HB.out k hlt
        simp only [List.getD_eq_getElem?_getD] at this
        omega
      obtain ⟨hb0, hb1⟩ := hbb
      have HC := Lib.hid hc
      clear hc
      go_wp2
      go_round
      case rel => exact ⟨k + 1, by omega, by go_num, by rw [sum_step xs k (by rw [HL.out]; exact hlt) (HB.out k hlt)]⟩
      case measure => simp [intOf]; omega
    · go_wp2
      go_ret
      obtain rfl : k = n := by omega
      refine ⟨ret_u32 ?_, rfl⟩
      rw [List.take_of_length_le (by rw [HL.out]; omega), sum_high]
      rfl

/-- A slice of slices of bytes. -/
def Parts (w : World) (B : Nat) (v : Value) (xss : List (List Nat)) : Prop :=
  ∃ A n c, v = .slice A n c ∧ xss.length = n ∧ n ≤ maxLen ∧
    (0 < n → ∃ b off, A = some ⟨b, off, none⟩ ∧ ∀ j, j < n → ∃ u, w.cell? ⟨b, off + j, none⟩ = some u ∧ Bts w B u (xss.getD j []))

theorem sum_step2 (ps xs : List Nat) (k : Nat) (hk : k < xs.length) (hb : xs.getD k 0 < 256) :
    IntKind.u64.wrap (bits .xor .u64 (sumI (ps ++ xs.take k)) ((xs[k]?.getD 0 : Nat) : Int) * 1099511628211) = sumI (ps ++ xs.take (k + 1)) := by
  have e : xs.take (k + 1) = xs.take k ++ [xs.getD k 0] := by
    rw [List.take_succ_eq_append_getElem hk]
    simp [hk]
  rw [e, ← List.append_assoc]
  simp only [List.getD_eq_getElem?_getD] at hb ⊢
  exact sumI_snoc _ _ hb
theorem flat_step (xss : List (List Nat)) (k : Nat) (hk : k < xss.length) : (xss.take (k + 1)).flatten = (xss.take k).flatten ++ xss.getD k [] := by
  have e : xss.getD k [] = xss[k] := by simp [hk]
  rw [List.take_succ_eq_append_getElem hk, List.flatten_append, e]
  simp only [List.flatten_cons, List.flatten_nil, List.append_nil]

set_option maxRecDepth 20000 in
set_option maxHeartbeats 400000 in
theorem sum_any (v : Value) (xss : List (List Nat)) (B : Nat) (w : World) (h : Parts w B v xss) :
    Calls Try.prog 72 #[v] w fun e w' => e = .returned (.int .u32 (sumU xss.flatten)) ∧ w = w' := by
  obtain ⟨A, n, c, rfl, hl, hm, hx⟩ := h
  unfold maxLen at hm
  have HL := Lib.hid hl
  clear hl
  have HX := Lib.hid hx
  clear hx
  have HS := Lib.hid sumI_nil
  go_enter Try.func72, Try.ntmps72
  go_wp2
  go_loop [3, 10] (fun s i => ∃ k : Nat, k ≤ n ∧ i = .int .i64 k ∧ s = .int .u64 (sumI (xss.take k).flatten)) (fun _ i => n - (intOf i).toNat)
  case atStart => exact ⟨0, Nat.zero_le _, rfl, by rw [List.take_zero, List.flatten_nil, HS.out]⟩
  case round =>
    obtain ⟨k, hk, rfl, rfl⟩ := hrel
    obtain ⟨ps, hps⟩ : ∃ ps, ps = (xss.take k).flatten := ⟨_, rfl⟩
    rw [← hps]
    have HP := Lib.hid hps
    clear hps
    have h0 : 0 ≤ sumI ps := sumI_nonneg _
    by_cases hlt : k < n
    · obtain ⟨b, off, rfl, hc⟩ := HX.out (by omega)
      obtain ⟨u, hcell, hu⟩ := hc k hlt
      obtain ⟨A', n', c', rfl, hl', hm', _, _, hb', hx'⟩ := hu
      unfold maxLen at hm'
      obtain ⟨ys, hys⟩ : ∃ ys, ys = xss.getD k [] := ⟨_, rfl⟩
      rw [← hys] at hl' hb' hx'
      have HY := Lib.hid hys
      clear hys
      have HL' := Lib.hid hl'
      clear hl'
      have HB' := Lib.hid hb'
      clear hb'
      have HX' := Lib.hid hx'
      clear hx'
      have HC := Lib.hid hc
      clear hc
      go_wp2
      go_loop [3, 16] (fun s i => ∃ j : Nat, j ≤ n' ∧ i = .int .i64 j ∧ s = .int .u64 (sumI (ps ++ ys.take j))) (fun _ i => n' - (intOf i).toNat)
      case atStart => exact ⟨0, Nat.zero_le _, rfl, by rw [List.take_zero, List.append_nil]⟩
      case round =>
        obtain ⟨j, hj, rfl, rfl⟩ := hrel
        have h1 : 0 ≤ sumI (ps ++ ys.take j) := sumI_nonneg _
        by_cases hlt' : j < n'
        · obtain ⟨b', off', rfl, _, hc'⟩ := HX'.out (by omega)
          have hcell' := hc' j hlt'
          have hbb : (0 : Int) ≤ ((ys[j]?.getD 0 : Nat) : Int) ∧ ((ys[j]?.getD 0 : Nat) : Int) < 256 := by
            have := HB'.out j hlt'
            simp only [List.getD_eq_getElem?_getD] at this
            omega
          obtain ⟨hb0, hb1⟩ := hbb
          have HC' := Lib.hid hc'
          clear hc'
          go_wp2
          go_round
          case rel => exact ⟨j + 1, by omega, by go_num, by rw [sum_step2 ps ys j (by rw [HL'.out]; exact hlt') (HB'.out j hlt')]⟩
          case measure => simp [intOf]; omega
        · have HE := Lib.hid (show ps ++ ys.take j = (xss.take (k + 1)).flatten by
            rw [flat_step xss k (by rw [HL.out]; exact hlt), ← HP.out, ← HY.out, List.take_of_length_le (by rw [HL'.out]; omega)])
          go_wp2
          go_round
          case rel => exact ⟨k + 1, by omega, by go_num, by rw [HE.out]⟩
          case measure => simp [intOf]; omega
    · have HE := Lib.hid (show ps = xss.flatten by rw [HP.out, List.take_of_length_le (by rw [HL.out]; omega)])
      have h2 := sumI_lt ps
      go_wp2
      go_ret
      refine ⟨ret_u32 ?_, rfl⟩
      rw [HE.out]
      rfl
end Go.Proofs.Ytfnegbcpiejdaaa

/-! ## Put: The contracts of word.Put, of the document's Num and of its Same: a number's bytes laid into memory at a place, or nothing; a number's bytes as a list; whether two lists of bytes are the same.   Conditions: the block that is written is known whole; at most eight bytes of a number. -/
namespace Go.Proofs.Ytfnegbcpiejdaaa
open Go.RowKit
set_option linter.unusedVariables false

theorem put_byte (v k : Nat) : Value.int .u8 ((v : Int) / 2 ^ (8 * k) % 256) = bv (dig v k) := by
  unfold dig bv
  rw [Int.natCast_emod, Int.natCast_ediv, Int.natCast_pow]
  rfl

/-- What Put leaves: block g with n bytes of v from p on; all else as it was. -/
def PutPost (w w' : World) (g : Nat) (t : TypeId) (cur : Array Value) : Prop :=
  Blk w' g t cur ∧ w.grownBy w' (some g) ∧ w'.heap.size = w.heap.size

theorem PutPost.step {w w' : World} {g : Nat} {t : TypeId} {cur : Array Value} (h : PutPost w w' g t cur) (i : Nat) (u : Value) : PutPost w (w'.setCell ⟨g, i, none⟩ u) g t (cur.setIfInBounds i u) := by
  obtain ⟨h1, h2, h3⟩ := h
  refine ⟨h1.set_ i u, ⟨h2.os, h2.tape, h2.output, by simpa [World.setCell] using h2.size, fun k hk hne => ?_⟩, by simpa [World.setCell] using h3⟩
  rw [Below.heap_setCell _ _ _ _ (by rintro rfl; exact hne rfl)]
  exact h2.block k hk hne

set_option maxRecDepth 20000 in
set_option maxHeartbeats 400000 in
theorem put_yes (g off l c v : Nat) (t : TypeId) (cur : Array Value) (at_ n : Int) (w : World) (hl : l ≤ maxLen) (hf : Fit l at_ n) (hg : Blk w g t cur) (hs : off + l ≤ cur.size) :
    Calls Try.prog 76 #[.slice (some ⟨g, off, none⟩) l c, .int .i64 at_, .int .u64 v, .int .i64 n] w fun e w' => e = .returned (.bool true) ∧ PutPost w w' g t (putV cur (off + at_.toNat) v n.toNat) := by
  have HM := Lib.hid hl
  unfold maxLen at hl
  obtain ⟨h1, h2, h3, h4⟩ := hf
  obtain ⟨a, rfl⟩ := Int.eq_ofNat_of_zero_le h3
  obtain ⟨m, rfl⟩ := Int.eq_ofNat_of_zero_le h1
  have h5 : a + m ≤ l := by omega
  have h6 : m ≤ 8 := by omega
  have HF := Lib.hid (fits_yes (some ⟨g, off, none⟩) l c a m w HM.out ⟨h1, h2, h3, h4⟩)
  clear h1 h2 h3 h4
  have HG := Lib.hid hg
  clear hg
  simp only [Int.toNat_natCast]
  go_enter Try.func76, Try.ntmps76
  go_wp2_with (go_at_call 89; refine (HF.out).mono ?_; rintro e w' ⟨rfl, rfl⟩)
  go_loopw [16] (fun i wr => ∃ k : Nat, k ≤ m ∧ i = .int .i64 k ∧ PutPost w wr g t (putV cur (off + a) v k)) (fun i _ => m - (intOf i).toNat)
  case atStart => exact ⟨0, Nat.zero_le _, rfl, HG.out, World.grownBy.refl _ _, rfl⟩
  case round =>
    obtain ⟨k, hk, rfl, hp⟩ := hrel
    by_cases hlt : k < m
    · have hsz : off + (a + k) < (putV cur (off + a) v k).size := by rw [putV_size]; omega
      have hcell : wr.cell? ⟨g, off + (a + k), none⟩ = some ((putV cur (off + a) v k)[off + (a + k)]'hsz) := by
        rw [hp.1.cell]
        exact Array.getElem?_eq_getElem hsz
      have hfz : wr.frozen? ⟨g, off + (a + k), none⟩ = false := hp.1.frozen _
      have hnext := hp.step (off + (a + k)) (bv (dig v k))
      obtain ⟨old, hold⟩ : ∃ old, old = (putV cur (off + a) v k)[off + (a + k)]'hsz := ⟨_, rfl⟩
      rw [← hold] at hcell
      have HN := Lib.hid hnext
      clear hnext hold hp hsz
      go_wp2
      go_roundw
      case rel => exact ⟨k + 1, by omega, by go_num, by rw [put_byte, putV, show off + a + k = off + (a + k) by omega]; exact HN.out⟩
      case measure => simp [intOf]; omega
    · obtain rfl : k = m := by omega
      go_wp2
      go_ret
      exact ⟨rfl, hp⟩

set_option maxRecDepth 20000 in
set_option maxHeartbeats 400000 in
theorem put_zero (A : Option Addr) (l c v : Nat) (at_ : Int) (w : World) (hl : l ≤ maxLen) (hf : Fit l at_ 0) :
    Calls Try.prog 76 #[.slice A l c, .int .i64 at_, .int .u64 v, .int .i64 0] w fun e w' => e = .returned (.bool true) ∧ w = w' := by
  have HF := Lib.hid (fits_yes A l c at_ 0 w hl hf)
  clear hf
  go_enter Try.func76, Try.ntmps76
  go_wp2_with (go_at_call 89; refine (HF.out).mono ?_; rintro e w' ⟨rfl, rfl⟩)
  go_loop [16] (fun i => i = .int .i64 0) (fun _ => 0)
  case atStart => exact rfl
  case round =>
    obtain rfl := hrel
    go_wp2
    go_ret
    exact ⟨rfl, rfl⟩

set_option maxRecDepth 20000 in
set_option maxHeartbeats 400000 in
theorem put_no (A : Option Addr) (l c v : Nat) (at_ n : Int) (w : World) (hl : l ≤ maxLen) (hf : NoFit l at_ n) :
    Calls Try.prog 76 #[.slice A l c, .int .i64 at_, .int .u64 v, .int .i64 n] w fun e w' => e = .returned (.bool false) ∧ w = w' := by
  have HF := Lib.hid (fits_no A l c at_ n w hl hf)
  clear hf
  go_enter Try.func76, Try.ntmps76
  go_wp2_with (go_at_call 89; refine (HF.out).mono ?_; rintro e w' ⟨rfl, rfl⟩)
  go_ret
  exact ⟨rfl, rfl⟩

/-! ### the document's Num -/

theorem Try.info5 : (Try.prog.info? 5).map (fun i => (i.zero, i.size, i.bytes)) = some (some (.int .u8 0), 1, 1) := by kernel_rfl

theorem num_byte (v k y : Nat) (h : y = v / 2 ^ (8 * k)) : Value.int .u8 ((y : Int) % 256) = bv (dig v k) := by
  subst h
  unfold dig bv
  rfl
theorem num_next (v k y : Nat) (hv : v < 18446744073709551616) (h : y = v / 2 ^ (8 * k)) : IntKind.u64.wrap ((y : Int) / 256) = ((v / 2 ^ (8 * (k + 1)) : Nat) : Int) := by
  have h1 : v / 2 ^ (8 * (k + 1)) = y / 256 := by
    subst h
    rw [show 8 * (k + 1) = 8 * k + 8 by omega, Nat.pow_add, ← Nat.div_div_eq_div_mul]
  have h2 : y ≤ v := by rw [h]; exact Nat.div_le_self _ _
  rw [h1, IntKind.wrap_u64]
  omega

set_option maxRecDepth 20000 in
set_option maxHeartbeats 400000 in
theorem num_any (v : Nat) (n : Int) (w : World) (hv : v < 18446744073709551616) (h0 : 0 ≤ n) (h8 : n ≤ 8) :
    Calls Try.prog 66 #[.int .u64 v, .int .i64 n] w fun e w' => ∃ r, e = .returned r ∧ w'.ownsRow w.heap.size 5 1 r n.toNat ((numL v n.toNat).map bv) ∧ Below w.heap.size w w' := by
  obtain ⟨m, rfl⟩ := Int.eq_ofNat_of_zero_le h0
  have h6 : m ≤ 8 := by omega
  clear h0 h8
  have HV := Lib.hid hv
  clear hv
  simp only [Int.toNat_natCast]
  obtain ⟨i0, hi, hz0, hz1, hz2⟩ := info_parts Try.info5
  go_enter Try.func66, Try.ntmps66
  go_wp2
  go_loopw [0, 5, 6] (fun x o i wr => ∃ k : Nat, k ≤ m ∧ i = .int .i64 k ∧ x = .int .u64 ((v / 2 ^ (8 * k) : Nat) : Int) ∧ wr.ownsRow w.heap.size 5 1 o k ((numL v k).map bv) ∧ Below w.heap.size w wr) (fun _ _ i _ => m - (intOf i).toNat)
  case atStart => exact ⟨0, Nat.zero_le _, rfl, by simp, World.ownsRow_nil _ _ _ _, Below.refl _ _⟩
  case round =>
    obtain ⟨k, hk, rfl, rfl, hown, hb⟩ := hrel
    by_cases hlt : k < m
    · obtain ⟨y, hy⟩ : ∃ y, y = v / 2 ^ (8 * k) := ⟨_, rfl⟩
      rw [← hy]
      have HY := Lib.hid hy
      clear hy
      have HO := Lib.hid hown
      clear hown
      go_wp2_with (at_builtin; refine wpList_append_own _ rfl _ _ 27 rfl w.heap.size 5 i0 (.int .u8 0) 1 1 Try.underlying27 hi hz0 hz1 hz2 rfl (by decide) _ _ _ rfl (HO.out.alloc _) ⟨wr.heap.size, 0, none⟩ 1 1 [.int .u8 ((y : Int) % 256)] rfl rfl ?c1 ?c2 ?c3 ?c4 ?c5 ?_)
      case c1 =>
        intro j u hj
        match j, hj with
        | 0, hj => simp at hj; subst hj; simp [Addr.add]
      case c2 => intro u hu; simp at hu; subst hu; rfl
      case c3 => unfold maxLen; omega
      case c4 => omega
      case c5 => have := hb.size; simp; omega
      intro v' w1 hown1 hgrow _
      have hb1 : Below w.heap.size w w1 := (hb.alloc hb.size _).grown hgrow (by have := hb.size; simp; omega) (fun q hq => (HO.out.lt q hq).1)
      have HB1 := Lib.hid hb1
      rw [num_byte v k y HY.out, ← List.map_singleton, ← List.map_append, ← numL_snoc] at hown1
      have HO1 := Lib.hid hown1
      clear hown1 hgrow hb1
      go_wp2
      go_roundw
      case rel => exact ⟨k + 1, by omega, by go_num, by rw [num_next v k y HV.out HY.out], HO1.out, HB1.out⟩
      case measure => simp [intOf]; omega
    · obtain rfl : k = m := by omega
      go_wp2
      go_ret
      exact ⟨_, rfl, hown, hb⟩

/-! ### the document's Same -/

set_option maxRecDepth 20000 in
set_option maxHeartbeats 400000 in
theorem same_no_len (A A' : Option Addr) (l c l' c' : Nat) (w : World) (h : l ≠ l') :
    Calls Try.prog 16 #[.slice A l c, .slice A' l' c'] w fun e w' => e = .returned (.bool false) ∧ w = w' := by
  have h1 : ((l : Int) != (l' : Int)) = true := by simp; omega
  go_enter Try.func16, Try.ntmps16
  go_wp2
  go_ret
  exact ⟨rfl, rfl⟩
end Go.Proofs.Ytfnegbcpiejdaaa

/-! ## Same: The contract of the document's Same: whether two lists of bytes are the same.   Conditions: both are read in memory. -/
namespace Go.Proofs.Ytfnegbcpiejdaaa
open Go.RowKit
set_option linter.unusedVariables false

def Drew (w w' : World) : Prop := ∃ m, w' = w.drewN m

set_option maxRecDepth 20000 in
set_option maxHeartbeats 400000 in
theorem same_yes (v v' : Value) (xs : List Nat) (B B' : Nat) (w : World) (h : Bts w B v xs) (h' : Bts w B' v' xs) :
    Calls Try.prog 16 #[v, v'] w fun e w' => e = .returned (.bool true) ∧ Drew w w' := by
  obtain ⟨A, l, c, rfl, hl, hm, _, _, hb, hx⟩ := h
  obtain ⟨A', l', c', rfl, hl', hm', _, _, hb', hx'⟩ := h'
  obtain rfl : l' = l := by omega
  unfold maxLen at hm
  have HX := Lib.hid hx
  have HX' := Lib.hid hx'
  have HB := Lib.hid hb
  clear hl hl' hm' hb hb' hx hx'
  go_enter Try.func16, Try.ntmps16
  go_wp2
  go_loopw [5] (fun i wr => ∃ k m : Nat, k ≤ l' ∧ i = .int .i64 k ∧ wr = w.drewN m) (fun i _ => l' - (intOf i).toNat)
  case atStart => exact ⟨0, 0, Nat.zero_le _, rfl, rfl⟩
  case round =>
    obtain ⟨k, m, hk, rfl, rfl⟩ := hrel
    by_cases hlt : k < l'
    · obtain ⟨b, off, rfl, _, hc⟩ := HX.out (by omega)
      obtain ⟨b', off', rfl, _, hc'⟩ := HX'.out (by omega)
      have hcell := hc k hlt
      have hcell' := hc' k hlt
      obtain ⟨y, hy⟩ : ∃ y, y = xs.getD k 0 := ⟨_, rfl⟩
      rw [← hy] at hcell hcell'
      clear hc hc' hy
      go_wp2
      go_quiet (fail)
      go_wp2
      go_roundw
      case rel => exact ⟨k + 1, m + nq, by omega, by go_num, rfl⟩
      case measure => simp [intOf]; omega
    · obtain rfl : k = l' := by omega
      go_wp2
      go_ret
      exact ⟨rfl, m, rfl⟩
end Go.Proofs.Ytfnegbcpiejdaaa

/-! ## RefGet: The contract of the document's own Get: the number of the bytes at a place, or 0 and false; nothing is changed.   Conditions: the bytes are read in memory. -/
namespace Go.Proofs.Ytfnegbcpiejdaaa
open Go.RowKit
set_option linter.unusedVariables false

set_option maxRecDepth 20000 in
set_option maxHeartbeats 400000 in
theorem refGet_no (A : Option Addr) (l c : Nat) (at_ n : Int) (w : World) (hl : l ≤ maxLen) (hn : -9223372036854775808 ≤ at_) (h : NoFit l at_ n) :
    Calls Try.prog 65 #[.slice A l c, .int .i64 at_, .int .i64 n] w fun e w' => e = .returned (.tuple #[.int .u64 0, .bool false]) ∧ w = w' := by
  unfold maxLen at hl
  unfold NoFit at h
  by_cases h1 : n < 0
  · clear h
    go_enter Try.func65, Try.ntmps65
    go_wp2
    go_ret2
    exact ⟨rfl, rfl⟩
  · have h1' : 0 ≤ n := by omega
    by_cases h2 : 8 < n
    · clear h
      go_enter Try.func65, Try.ntmps65
      go_wp2
      go_ret2
      exact ⟨rfl, rfl⟩
    · have h2' : n ≤ 8 := by omega
      by_cases h3 : at_ < 0
      · clear h
        go_enter Try.func65, Try.ntmps65
        go_wp2
        go_ret2
        exact ⟨rfl, rfl⟩
      · have h3' : 0 ≤ at_ := by omega
        by_cases h4 : (l : Int) < at_
        · clear h
          go_enter Try.func65, Try.ntmps65
          go_wp2
          go_ret2
          exact ⟨rfl, rfl⟩
        · have h4' : at_ ≤ l := by omega
          have h5 : (l : Int) - at_ < n := by omega
          clear h
          go_enter Try.func65, Try.ntmps65
          go_wp2
          go_ret2
          exact ⟨rfl, rfl⟩

set_option maxRecDepth 20000 in
set_option maxHeartbeats 400000 in
theorem refGet_yes (v : Value) (xs : List Nat) (B : Nat) (at_ n : Int) (w : World) (h : Bts w B v xs) (hf : Fit xs.length at_ n) :
    Calls Try.prog 65 #[v, .int .i64 at_, .int .i64 n] w fun e w' => e = .returned (.tuple #[.int .u64 (getV xs at_ n), .bool true]) ∧ w = w' := by
  obtain ⟨A, l, c, rfl, hl, hm, _, _, hb, hx⟩ := h
  unfold maxLen at hm
  obtain ⟨h1, h2, h3, h4⟩ := hf
  obtain ⟨a, rfl⟩ := Int.eq_ofNat_of_zero_le h3
  obtain ⟨m, rfl⟩ := Int.eq_ofNat_of_zero_le h1
  have h5 : a + m ≤ l := by omega
  have h6 : m ≤ 8 := by omega
  clear h1 h2 h3 h4
  have HL := Lib.hid hl
  clear hl
  have HB := Lib.hid hb
  clear hb
  have HX := Lib.hid hx
  clear hx
  have d1 : decide ((m : Int) < 0) = false := by simp
  have d2 : decide ((8 : Int) < (m : Int)) = false := by simp; omega
  have d3 : decide ((a : Int) < 0) = false := by simp
  have d4 : decide (l < a) = false := by simp; omega
  have d5 : decide ((l : Int) - (a : Int) < (m : Int)) = false := by simp; omega
  go_enter Try.func65, Try.ntmps65
  go_wp2
  go_loop [8, 9] (fun s i => ∃ k : Nat, k ≤ m ∧ i = .int .i64 ((k : Int) - 1) ∧ s = .int .u64 ((le (win xs (a + k) (m - k)) : Nat) : Int)) (fun _ i => (intOf i + 1).toNat)
  case atStart => exact ⟨m, Nat.le_refl _, rfl, by rw [Nat.sub_self, win, List.take_zero]; rfl⟩
  case round =>
    obtain ⟨k, hk, rfl, rfl⟩ := hrel
    by_cases hlt : 0 < k
    · obtain ⟨j, rfl⟩ : ∃ j, k = j + 1 := ⟨k - 1, by omega⟩
      obtain ⟨b, off, rfl, _, hc⟩ := HX.out (by omega)
      have hcell := hc (a + j) (by omega)
      have hx8 := HB.out (a + j) (by omega)
      obtain ⟨y, hy⟩ : ∃ y, y = xs.getD (a + j) 0 := ⟨_, rfl⟩
      rw [← hy] at hcell hx8
      have HS := Lib.hid (show win xs (a + j) (m - j) = y :: win xs (a + (j + 1)) (m - (j + 1)) by
        rw [show m - j = m - (j + 1) + 1 by omega, win_cons xs (a + j) _ (by rw [HL.out]; omega), hy]
        rfl)
      clear hc hy
      have hx0 : (0 : Int) ≤ (y : Int) := by omega
      have hx1 : (y : Int) < 256 := by omega
      rw [show (((j + 1 : Nat) : Int) - 1) = (j : Int) by omega]
      go_wp2
      go_round
      case rel =>
        refine ⟨j, by omega, rfl, ?_⟩
        rw [HS.out, le_shift y (win xs (a + (j + 1)) (m - (j + 1))) (m - (j + 1)) (win_length _ _ _ (by rw [HL.out]; omega)) (by omega) (win_byte _ _ _ (by rw [HL.out]; exact HB.out)) hx8]
      case measure => simp [intOf]
    · obtain rfl : k = 0 := by omega
      go_wp2
      go_ret2
      exact ⟨ret_u64_bool (by unfold getV; simp), rfl⟩
end Go.Proofs.Ytfnegbcpiejdaaa

/-! ## U8: Bytes in the program's own numbering: their size, their zero, a slice of zeros made.   Conditions: none beside those that each line bears. -/
namespace Go.Proofs.Ytfnegbcpiejdaaa
open Go.RowKit
set_option linter.unusedVariables false

theorem Try.size8 : (Try.prog.info? 5).map (·.size) = some 1 := by kernel_rfl
theorem Try.zero8 (w : World) : (zeroValue 5).run Try.prog w = .ok (.int .u8 0) w := by kernel_rfl

theorem Try.info8 : (Try.prog.info? 5).map (fun i => (i.zero, i.size, i.bytes)) = some (some (.int .u8 0), 1, 1) := by kernel_rfl
theorem make_zs (n : Nat) (hn : n ≤ 1000000) (w : World) : (Instr.makeSlice 27 (.int .i64 (n : Int)) (.int .i64 (n : Int))).run Try.prog w = .ok (.slice (some ⟨w.heap.size, 0, none⟩) n n) (w.alloc (.cells (zs n) 5)) := by
  obtain ⟨i0, hi, hz0, hz1, hz2⟩ := info_parts Try.info8
  exact run_make_zs _ _ i0 Try.underlying27 hi hz0 hz1 hz2 n hn w

end Go.Proofs.Ytfnegbcpiejdaaa
