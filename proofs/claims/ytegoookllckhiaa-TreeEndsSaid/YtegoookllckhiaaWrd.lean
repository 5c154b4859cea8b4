/-
  The contracts of word's Get, Put and Sum, and of the document's own; bytes in the program's numbering.
  Conditions: those that each line bears.
-/
import Derived.Test.YtegoookllckhiaaProg
import Derived.Test.YtegoookllckhiaaBas
import Derived.WalkKit
import Derived.WalkSpells
import Derived.Lib.Hide
import Derived.Deep.QuietTactic
import Derived.BigQuiet

/-! ## Get: The contracts of word.fits and word.Get: the number of the bytes at a place, or 0 and false; nothing is changed.   Conditions: the bytes are read in memory. -/
namespace Go.Proofs.Ytegoookllckhiaa
open Go.RowKit
set_option linter.unusedVariables false

/-- The places that may be: n bytes from at on in a list of l bytes. -/
def Fit (l : Nat) (at_ n : Int) : Prop := 0 ≤ n ∧ n ≤ 8 ∧ 0 ≤ at_ ∧ at_ + n ≤ l
def NoFit (l : Nat) (at_ n : Int) : Prop := n < 0 ∨ 8 < n ∨ at_ < 0 ∨ l < at_ + n
theorem fit_or (l : Nat) (at_ n : Int) : Fit l at_ n ∨ NoFit l at_ n := by unfold Fit NoFit; omega

set_option maxRecDepth 20000 in
set_option maxHeartbeats 400000 in
theorem fits_yes (A : Option Addr) (l c : Nat) (at_ n : Int) (w : World) (hl : l ≤ maxLen) (h : Fit l at_ n) :
    Calls Try.prog 75 #[.slice A l c, .int .i64 at_, .int .i64 n] w fun e w' => e = .returned (.bool true) ∧ w = w' := by
  unfold maxLen at hl
  obtain ⟨h1, h2, h3, h4⟩ := h
  have h5 : decide (at_ ≤ (l : Int) - n) = true := by simp; omega
  go_enter Try.func75, Try.ntmps75
  go_wp2
  go_ret
  exact ⟨rfl, rfl⟩

set_option maxRecDepth 20000 in
set_option maxHeartbeats 400000 in
theorem fits_no (A : Option Addr) (l c : Nat) (at_ n : Int) (w : World) (hl : l ≤ maxLen) (h : NoFit l at_ n) :
    Calls Try.prog 75 #[.slice A l c, .int .i64 at_, .int .i64 n] w fun e w' => e = .returned (.bool false) ∧ w = w' := by
  unfold maxLen at hl
  unfold NoFit at h
  by_cases h1 : n < 0
  · clear h
    go_enter Try.func75, Try.ntmps75
    go_wp2
    go_ret
    exact ⟨rfl, rfl⟩
  · have h1' : 0 ≤ n := by omega
    by_cases h2 : 8 < n
    · clear h
      go_enter Try.func75, Try.ntmps75
      go_wp2
      go_ret
      exact ⟨rfl, rfl⟩
    · have h2' : n ≤ 8 := by omega
      by_cases h3 : at_ < 0
      · clear h
        go_enter Try.func75, Try.ntmps75
        go_wp2
        go_ret
        exact ⟨rfl, rfl⟩
      · have h3' : 0 ≤ at_ := by omega
        have h4 : decide (at_ ≤ (l : Int) - n) = false := by simp; omega
        clear h
        go_enter Try.func75, Try.ntmps75
        go_wp2
        go_ret
        exact ⟨rfl, rfl⟩

theorem ret_u64_bool {a b : Int} {t : Bool} (h : a = b) : Ending.returned (.tuple #[.int .u64 a, .bool t]) = .returned (.tuple #[.int .u64 b, .bool t]) := by rw [h]

/-- What Get answers. -/
def getV (xs : List Nat) (at_ n : Int) : Int := ((le (win xs at_.toNat n.toNat) : Nat) : Int)

set_option maxRecDepth 20000 in
set_option maxHeartbeats 400000 in
theorem get_yes (v : Value) (xs : List Nat) (B : Nat) (at_ n : Int) (w : World) (h : Bts w B v xs) (hf : Fit xs.length at_ n) :
    Calls Try.prog 69 #[v, .int .i64 at_, .int .i64 n] w fun e w' => e = .returned (.tuple #[.int .u64 (getV xs at_ n), .bool true]) ∧ w = w' := by
  obtain ⟨A, l, c, rfl, hl, hm, _, _, hb, hx⟩ := h
  have HM := Lib.hid hm
  unfold maxLen at hm
  obtain ⟨h1, h2, h3, h4⟩ := hf
  obtain ⟨a, rfl⟩ := Int.eq_ofNat_of_zero_le h3
  obtain ⟨m, rfl⟩ := Int.eq_ofNat_of_zero_le h1
  have h5 : a + m ≤ l := by omega
  have h6 : m ≤ 8 := by omega
  have HF := Lib.hid (fits_yes A l c a m w HM.out ⟨h1, h2, h3, by rw [← hl]; exact h4⟩)
  clear h1 h2 h3 h4
  have HL := Lib.hid hl
  clear hl
  have HB := Lib.hid hb
  clear hb
  have HX := Lib.hid hx
  clear hx
  go_enter Try.func69, Try.ntmps69
  go_wp2_with (go_at_call 75; refine (HF.out).mono ?_; rintro e w' ⟨rfl, rfl⟩)
  go_loop [8, 16] (fun s i => ∃ k : Nat, k ≤ m ∧ i = .int .i64 k ∧ s = .int .u64 ((le (win xs a k) : Nat) : Int)) (fun _ i => m - (intOf i).toNat)
  case atStart => exact ⟨0, Nat.zero_le _, rfl, by rw [win, List.take_zero]; rfl⟩
  case round =>
    obtain ⟨k, hk, rfl, rfl⟩ := hrel
    by_cases hlt : k < m
    · obtain ⟨b, off, rfl, _, hc⟩ := HX.out (by omega)
      have hcell := hc (a + k) (by omega)
      have hx8 := HB.out (a + k) (by omega)
      obtain ⟨y, hy⟩ : ∃ y, y = xs.getD (a + k) 0 := ⟨_, rfl⟩
      rw [← hy] at hcell hx8
      have HS := Lib.hid (show le (win xs a (k + 1)) = le (win xs a k ++ [y]) by rw [win_snoc xs a k (by rw [HL.out]; omega), hy])
      clear hc hy
      have hx0 : (0 : Int) ≤ (y : Int) := by omega
      have hx1 : (y : Int) < 256 := by omega
      go_wp2
      go_round
      case rel =>
        refine ⟨k + 1, by omega, by go_num, ?_⟩
        rw [HS.out, le_or (win xs a k) k y (win_length _ _ _ (by rw [HL.out]; omega)) (by omega) (win_byte _ _ _ (by rw [HL.out]; exact HB.out)) hx8]
      case measure => simp [intOf]; omega
    · obtain rfl : k = m := by omega
      go_wp2
      go_ret2
      exact ⟨ret_u64_bool (by unfold getV; simp), rfl⟩

set_option maxRecDepth 20000 in
set_option maxHeartbeats 400000 in
theorem get_no (A : Option Addr) (l c : Nat) (at_ n : Int) (w : World) (hl : l ≤ maxLen) (hf : NoFit l at_ n) :
    Calls Try.prog 69 #[.slice A l c, .int .i64 at_, .int .i64 n] w fun e w' => e = .returned (.tuple #[.int .u64 0, .bool false]) ∧ w = w' := by
  have HF := Lib.hid (fits_no A l c at_ n w hl hf)
  clear hf
  go_enter Try.func69, Try.ntmps69
  go_wp2_with (go_at_call 75; refine (HF.out).mono ?_; rintro e w' ⟨rfl, rfl⟩)
  go_ret2
  exact ⟨rfl, rfl⟩
end Go.Proofs.Ytegoookllckhiaa

/-! ## Sum: The contracts of word.Sum and of the document's own Sum: both answer the sum of all bytes, one behind the other, and change nothing.   Conditions: the parts are read in memory. -/
namespace Go.Proofs.Ytegoookllckhiaa
open Go.RowKit

theorem ret_u32 {a b : Int} (h : a = b) : Ending.returned (.int .u32 a) = .returned (.int .u32 b) := by rw [h]

theorem sum_step (xs : List Nat) (k : Nat) (hk : k < xs.length) (hb : xs.getD k 0 < 256) :
    IntKind.u64.wrap (bits .xor .u64 (sumI (xs.take k)) ((xs[k]?.getD 0 : Nat) : Int) * 1099511628211) = sumI (xs.take (k + 1)) := by
  have e : xs.take (k + 1) = xs.take k ++ [xs.getD k 0] := by
    rw [List.take_succ_eq_append_getElem hk]
    simp [hk]
  rw [e]
  simp only [List.getD_eq_getElem?_getD] at hb ⊢
  exact sumI_snoc _ _ hb

/-- A slice of slices of bytes. -/
def Parts (w : World) (B : Nat) (v : Value) (xss : List (List Nat)) : Prop :=
  ∃ A n c, v = .slice A n c ∧ xss.length = n ∧ n ≤ maxLen ∧
    (0 < n → ∃ b off, A = some ⟨b, off, none⟩ ∧ ∀ j, j < n → ∃ u, w.cell? ⟨b, off + j, none⟩ = some u ∧ Bts w B u (xss.getD j []))

theorem sum_step2 (ps xs : List Nat) (k : Nat) (hk : k < xs.length) (hb : xs.getD k 0 < 256) :
    IntKind.u64.wrap (bits .xor .u64 (sumI (ps ++ xs.take k)) ((xs[k]?.getD 0 : Nat) : Int) * 1099511628211) = sumI (ps ++ xs.take (k + 1)) := by
  have e : xs.take (k + 1) = xs.take k ++ [xs.getD k 0] := by
    rw [List.take_succ_eq_append_getElem hk]
    simp [hk]
  rw [e, ← List.append_assoc]
  simp only [List.getD_eq_getElem?_getD] at hb ⊢
  exact sumI_snoc _ _ hb
theorem flat_step (xss : List (List Nat)) (k : Nat) (hk : k < xss.length) : (xss.take (k + 1)).flatten = (xss.take k).flatten ++ xss.getD k [] := by
  have e : xss.getD k [] = xss[k] := by simp [hk]
  rw [List.take_succ_eq_append_getElem hk, List.flatten_append, e]
  simp only [List.flatten_cons, List.flatten_nil, List.append_nil]

end Go.Proofs.Ytegoookllckhiaa

/-! ## Put: The contracts of word.Put, of the document's Num and of its Same: a number's bytes laid into memory at a place, or nothing; a number's bytes as a list; whether two lists of bytes are the same.   Conditions: the block that is written is known whole; at most eight bytes of a number. -/
namespace Go.Proofs.Ytegoookllckhiaa
open Go.RowKit
set_option linter.unusedVariables false

theorem put_byte (v k : Nat) : Value.int .u8 ((v : Int) / 2 ^ (8 * k) % 256) = bv (dig v k) := by
  unfold dig bv
  rw [Int.natCast_emod, Int.natCast_ediv, Int.natCast_pow]
  rfl

/-- What Put leaves: block g with n bytes of v from p on; all else as it was. -/
def PutPost (w w' : World) (g : Nat) (t : TypeId) (cur : Array Value) : Prop :=
  Blk w' g t cur ∧ w.grownBy w' (some g) ∧ w'.heap.size = w.heap.size

theorem PutPost.step {w w' : World} {g : Nat} {t : TypeId} {cur : Array Value} (h : PutPost w w' g t cur) (i : Nat) (u : Value) : PutPost w (w'.setCell ⟨g, i, none⟩ u) g t (cur.setIfInBounds i u) := by
  obtain ⟨h1, h2, h3⟩ := h
  refine ⟨h1.set_ i u, ⟨h2.os, h2.tape, h2.output, by simpa [World.setCell] using h2.size, fun k hk hne => ?_⟩, by simpa [World.setCell] using h3⟩
  rw [Below.heap_setCell _ _ _ _ (by rintro rfl; exact hne rfl)]
  exact h2.block k hk hne

set_option maxRecDepth 20000 in
set_option maxHeartbeats 400000 in
theorem put_yes (g off l c v : Nat) (t : TypeId) (cur : Array Value) (at_ n : Int) (w : World) (hl : l ≤ maxLen) (hf : Fit l at_ n) (hg : Blk w g t cur) (hs : off + l ≤ cur.size) :
    Calls Try.prog 71 #[.slice (some ⟨g, off, none⟩) l c, .int .i64 at_, .int .u64 v, .int .i64 n] w fun e w' => e = .returned (.bool true) ∧ PutPost w w' g t (putV cur (off + at_.toNat) v n.toNat) := by
  have HM := Lib.hid hl
  unfold maxLen at hl
  obtain ⟨h1, h2, h3, h4⟩ := hf
  obtain ⟨a, rfl⟩ := Int.eq_ofNat_of_zero_le h3
  obtain ⟨m, rfl⟩ := Int.eq_ofNat_of_zero_le h1
  have h5 : a + m ≤ l := by omega
  have h6 : m ≤ 8 := by omega
  have HF := Lib.hid (fits_yes (some ⟨g, off, none⟩) l c a m w HM.out ⟨h1, h2, h3, h4⟩)
  clear h1 h2 h3 h4
  have HG := Lib.hid hg
  clear hg
  simp only [Int.toNat_natCast]
  go_enter Try.func71, Try.ntmps71
  go_wp2_with (go_at_call 75; refine (HF.out).mono ?_; rintro e w' ⟨rfl, rfl⟩)
  go_loopw [16] (fun i wr => ∃ k : Nat, k ≤ m ∧ i = .int .i64 k ∧ PutPost w wr g t (putV cur (off + a) v k)) (fun i _ => m - (intOf i).toNat)
  case atStart => exact ⟨0, Nat.zero_le _, rfl, HG.out, World.grownBy.refl _ _, rfl⟩
  case round =>
    obtain ⟨k, hk, rfl, hp⟩ := hrel
    by_cases hlt : k < m
    · have hsz : off + (a + k) < (putV cur (off + a) v k).size := by rw [putV_size]; omega
      have hcell : wr.cell? ⟨g, off + (a + k), none⟩ = some ((putV cur (off + a) v k)[off + (a + k)]'hsz) := by
        rw [hp.1.cell]
        exact Array.getElem?_eq_getElem hsz
      have hfz : wr.frozen? ⟨g, off + (a + k), none⟩ = false := hp.1.frozen _
      have hnext := hp.step (off + (a + k)) (bv (dig v k))
      obtain ⟨old, hold⟩ : ∃ old, old = (putV cur (off + a) v k)[off + (a + k)]'hsz := ⟨_, rfl⟩
      rw [← hold] at hcell
      have HN := Lib.hid hnext
      clear hnext hold hp hsz
      go_wp2
      go_roundw
      case rel => exact ⟨k + 1, by omega, by go_num, by rw [put_byte, putV, show off + a + k = off + (a + k) by omega]; exact HN.out⟩
      case measure => simp [intOf]; omega
    · obtain rfl : k = m := by omega
      go_wp2
      go_ret
      exact ⟨rfl, hp⟩

set_option maxRecDepth 20000 in
set_option maxHeartbeats 400000 in
theorem put_zero (A : Option Addr) (l c v : Nat) (at_ : Int) (w : World) (hl : l ≤ maxLen) (hf : Fit l at_ 0) :
    Calls Try.prog 71 #[.slice A l c, .int .i64 at_, .int .u64 v, .int .i64 0] w fun e w' => e = .returned (.bool true) ∧ w = w' := by
  have HF := Lib.hid (fits_yes A l c at_ 0 w hl hf)
  clear hf
  go_enter Try.func71, Try.ntmps71
  go_wp2_with (go_at_call 75; refine (HF.out).mono ?_; rintro e w' ⟨rfl, rfl⟩)
  go_loop [16] (fun i => i = .int .i64 0) (fun _ => 0)
  case atStart => exact rfl
  case round =>
    obtain rfl := hrel
    go_wp2
    go_ret
    exact ⟨rfl, rfl⟩

set_option maxRecDepth 20000 in
set_option maxHeartbeats 400000 in
theorem put_no (A : Option Addr) (l c v : Nat) (at_ n : Int) (w : World) (hl : l ≤ maxLen) (hf : NoFit l at_ n) :
    Calls Try.prog 71 #[.slice A l c, .int .i64 at_, .int .u64 v, .int .i64 n] w fun e w' => e = .returned (.bool false) ∧ w = w' := by
  have HF := Lib.hid (fits_no A l c at_ n w hl hf)
  clear hf
  go_enter Try.func71, Try.ntmps71
  go_wp2_with (go_at_call 75; refine (HF.out).mono ?_; rintro e w' ⟨rfl, rfl⟩)
  go_ret
  exact ⟨rfl, rfl⟩

/-! ### the document's Num -/

theorem Try.info5 : (Try.prog.info? 5).map (fun i => (i.zero, i.size, i.bytes)) = some (some (.int .u8 0), 1, 1) := by kernel_rfl

theorem num_byte (v k y : Nat) (h : y = v / 2 ^ (8 * k)) : Value.int .u8 ((y : Int) % 256) = bv (dig v k) := by
  subst h
  unfold dig bv
  rfl
theorem num_next (v k y : Nat) (hv : v < 18446744073709551616) (h : y = v / 2 ^ (8 * k)) : IntKind.u64.wrap ((y : Int) / 256) = ((v / 2 ^ (8 * (k + 1)) : Nat) : Int) := by
  have h1 : v / 2 ^ (8 * (k + 1)) = y / 256 := by
    subst h
    rw [show 8 * (k + 1) = 8 * k + 8 by omega, Nat.pow_add, ← Nat.div_div_eq_div_mul]
  have h2 : y ≤ v := by rw [h]; exact Nat.div_le_self _ _
  rw [h1, IntKind.wrap_u64]
  omega

end Go.Proofs.Ytegoookllckhiaa

/-! ## Same: The contract of the document's Same: whether two lists of bytes are the same.   Conditions: both are read in memory. -/
namespace Go.Proofs.Ytegoookllckhiaa
open Go.RowKit
set_option linter.unusedVariables false

def Drew (w w' : World) : Prop := ∃ m, w' = w.drewN m

end Go.Proofs.Ytegoookllckhiaa

/-! ## RefGet: The contract of the document's own Get: the number of the bytes at a place, or 0 and false; nothing is changed.   Conditions: the bytes are read in memory. -/
namespace Go.Proofs.Ytegoookllckhiaa
open Go.RowKit
end Go.Proofs.Ytegoookllckhiaa

/-! ## U8: Bytes in the program's own numbering: their size, their zero, a slice of zeros made.   Conditions: none beside those that each line bears. -/
namespace Go.Proofs.Ytegoookllckhiaa
open Go.RowKit
set_option linter.unusedVariables false

theorem Try.size8 : (Try.prog.info? 5).map (·.size) = some 1 := by kernel_rfl
theorem Try.zero8 (w : World) : (zeroValue 5).run Try.prog w = .ok (.int .u8 0) w := by kernel_rfl

theorem Try.info8 : (Try.prog.info? 5).map (fun i => (i.zero, i.size, i.bytes)) = some (some (.int .u8 0), 1, 1) := by kernel_rfl
theorem make_zs (n : Nat) (hn : n ≤ 1000000) (w : World) : (Instr.makeSlice 112 (.int .i64 (n : Int)) (.int .i64 (n : Int))).run Try.prog w = .ok (.slice (some ⟨w.heap.size, 0, none⟩) n n) (w.alloc (.cells (zs n) 5)) := by
  obtain ⟨i0, hi, hz0, hz1, hz2⟩ := info_parts Try.info8
  exact run_make_zs _ _ i0 Try.underlying112 hi hz0 hz1 hz2 n hn w

end Go.Proofs.Ytegoookllckhiaa
