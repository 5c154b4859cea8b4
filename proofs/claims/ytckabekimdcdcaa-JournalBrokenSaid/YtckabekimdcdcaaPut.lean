/-
  The contracts of word.Put, of the document's Num and of its Same: a number's bytes laid into memory at a place, or nothing; a number's bytes as a list; whether two lists of bytes are the same.
  Conditions: the block that is written is known whole; at most eight bytes of a number.
-/
import Derived.Test.YtckabekimdcdcaaGet
import Derived.Deep.QuietTactic
import Derived.BigQuiet
namespace Go.Proofs.Ytckabekimdcdcaa
open Go.RowKit
set_option linter.unusedVariables false

theorem put_byte (v k : Nat) : Value.int .u8 ((v : Int) / 2 ^ (8 * k) % 256) = bv (dig v k) := by
  unfold dig bv
  rw [Int.natCast_emod, Int.natCast_ediv, Int.natCast_pow]
  rfl

/-- What Put leaves: block g with n bytes of v from p on; all else as it was. -/
def PutPost (w w' : World) (g : Nat) (t : TypeId) (cur : Array Value) : Prop :=
  Blk w' g t cur ∧ w.grownBy w' (some g) ∧ w'.heap.size = w.heap.size

theorem PutPost.step {w w' : World} {g : Nat} {t : TypeId} {cur : Array Value} (h : PutPost w w' g t cur) (i : Nat) (u : Value) : PutPost w (w'.setCell ⟨g, i, none⟩ u) g t (cur.setIfInBounds i u) := by
  obtain ⟨h1, h2, h3⟩ := h
  refine ⟨h1.set_ i u, ⟨h2.os, h2.tape, h2.output, by simpa [World.setCell] using h2.size, fun k hk hne => ?_⟩, by simpa [World.setCell] using h3⟩
  rw [Below.heap_setCell _ _ _ _ (by rintro rfl; exact hne rfl)]
  exact h2.block k hk hne

set_option maxRecDepth 20000 in
set_option maxHeartbeats 400000 in
theorem put_yes (g off l c v : Nat) (t : TypeId) (cur : Array Value) (at_ n : Int) (w : World) (hl : l ≤ maxLen) (hf : Fit l at_ n) (hg : Blk w g t cur) (hs : off + l ≤ cur.size) :
    Calls Try.prog 51 #[.slice (some ⟨g, off, none⟩) l c, .int .i64 at_, .int .u64 v, .int .i64 n] w fun e w' => e = .returned (.bool true) ∧ PutPost w w' g t (putV cur (off + at_.toNat) v n.toNat) := by
  have HM := Lib.hid hl
  unfold maxLen at hl
  obtain ⟨h1, h2, h3, h4⟩ := hf
  obtain ⟨a, rfl⟩ := Int.eq_ofNat_of_zero_le h3
  obtain ⟨m, rfl⟩ := Int.eq_ofNat_of_zero_le h1
  have h5 : a + m ≤ l := by omega
  have h6 : m ≤ 8 := by omega
  have HF := Lib.hid (fits_yes (some ⟨g, off, none⟩) l c a m w HM.out ⟨h1, h2, h3, h4⟩)
  clear h1 h2 h3 h4
  have HG := Lib.hid hg
  clear hg
  simp only [Int.toNat_natCast]
  go_enter Try.func51, Try.ntmps51
  go_wp2_with (go_at_call 54; refine (HF.out).mono ?_; rintro e w' ⟨rfl, rfl⟩)
  go_loopw [16] (fun i wr => ∃ k : Nat, k ≤ m ∧ i = .int .i64 k ∧ PutPost w wr g t (putV cur (off + a) v k)) (fun i _ => m - (intOf i).toNat)
  case atStart => exact ⟨0, Nat.zero_le _, rfl, HG.out, World.grownBy.refl _ _, rfl⟩
  case round =>
    obtain ⟨k, hk, rfl, hp⟩ := hrel
    by_cases hlt : k < m
    · have hsz : off + (a + k) < (putV cur (off + a) v k).size := by rw [putV_size]; omega
      have hcell : wr.cell? ⟨g, off + (a + k), none⟩ = some ((putV cur (off + a) v k)[off + (a + k)]'hsz) := by
        rw [hp.1.cell]
        exact Array.getElem?_eq_getElem hsz
      have hfz : wr.frozen? ⟨g, off + (a + k), none⟩ = false := hp.1.frozen _
      have hnext := hp.step (off + (a + k)) (bv (dig v k))
      obtain ⟨old, hold⟩ : ∃ old, old = (putV cur (off + a) v k)[off + (a + k)]'hsz := ⟨_, rfl⟩
      rw [← hold] at hcell
      have HN := Lib.hid hnext
      clear hnext hold hp hsz
      go_wp2
      go_roundw
      case rel => exact ⟨k + 1, by omega, by go_num, by rw [put_byte, putV, show off + a + k = off + (a + k) by omega]; exact HN.out⟩
      case measure => simp [intOf]; omega
    · obtain rfl : k = m := by omega
      go_wp2
      go_ret
      exact ⟨rfl, hp⟩

set_option maxRecDepth 20000 in
set_option maxHeartbeats 400000 in
theorem put_zero (A : Option Addr) (l c v : Nat) (at_ : Int) (w : World) (hl : l ≤ maxLen) (hf : Fit l at_ 0) :
    Calls Try.prog 51 #[.slice A l c, .int .i64 at_, .int .u64 v, .int .i64 0] w fun e w' => e = .returned (.bool true) ∧ w = w' := by
  have HF := Lib.hid (fits_yes A l c at_ 0 w hl hf)
  clear hf
  go_enter Try.func51, Try.ntmps51
  go_wp2_with (go_at_call 54; refine (HF.out).mono ?_; rintro e w' ⟨rfl, rfl⟩)
  go_loop [16] (fun i => i = .int .i64 0) (fun _ => 0)
  case atStart => exact rfl
  case round =>
    obtain rfl := hrel
    go_wp2
    go_ret
    exact ⟨rfl, rfl⟩

set_option maxRecDepth 20000 in
set_option maxHeartbeats 400000 in
theorem put_no (A : Option Addr) (l c v : Nat) (at_ n : Int) (w : World) (hl : l ≤ maxLen) (hf : NoFit l at_ n) :
    Calls Try.prog 51 #[.slice A l c, .int .i64 at_, .int .u64 v, .int .i64 n] w fun e w' => e = .returned (.bool false) ∧ w = w' := by
  have HF := Lib.hid (fits_no A l c at_ n w hl hf)
  clear hf
  go_enter Try.func51, Try.ntmps51
  go_wp2_with (go_at_call 54; refine (HF.out).mono ?_; rintro e w' ⟨rfl, rfl⟩)
  go_ret
  exact ⟨rfl, rfl⟩

/-! ### the document's Num -/

theorem Try.info5 : (Try.prog.info? 5).map (fun i => (i.zero, i.size, i.bytes)) = some (some (.int .u8 0), 1, 1) := by kernel_rfl

theorem num_byte (v k y : Nat) (h : y = v / 2 ^ (8 * k)) : Value.int .u8 ((y : Int) % 256) = bv (dig v k) := by
  subst h
  unfold dig bv
  rfl
theorem num_next (v k y : Nat) (hv : v < 18446744073709551616) (h : y = v / 2 ^ (8 * k)) : IntKind.u64.wrap ((y : Int) / 256) = ((v / 2 ^ (8 * (k + 1)) : Nat) : Int) := by
  have h1 : v / 2 ^ (8 * (k + 1)) = y / 256 := by
    subst h
    rw [show 8 * (k + 1) = 8 * k + 8 by omega, Nat.pow_add, ← Nat.div_div_eq_div_mul]
  have h2 : y ≤ v := by rw [h]; exact Nat.div_le_self _ _
  rw [h1, IntKind.wrap_u64]
  omega

set_option maxRecDepth 20000 in
set_option maxHeartbeats 400000 in
theorem num_any (v : Nat) (n : Int) (w : World) (hv : v < 18446744073709551616) (h0 : 0 ≤ n) (h8 : n ≤ 8) :
    Calls Try.prog 44 #[.int .u64 v, .int .i64 n] w fun e w' => ∃ r, e = .returned r ∧ w'.ownsRow w.heap.size 5 1 r n.toNat ((numL v n.toNat).map bv) ∧ Below w.heap.size w w' := by
  obtain ⟨m, rfl⟩ := Int.eq_ofNat_of_zero_le h0
  have h6 : m ≤ 8 := by omega
  clear h0 h8
  have HV := Lib.hid hv
  clear hv
  simp only [Int.toNat_natCast]
  obtain ⟨i0, hi, hz0, hz1, hz2⟩ := info_parts Try.info5
  go_enter Try.func44, Try.ntmps44
  go_wp2
  go_loopw [0, 5, 6] (fun x o i wr => ∃ k : Nat, k ≤ m ∧ i = .int .i64 k ∧ x = .int .u64 ((v / 2 ^ (8 * k) : Nat) : Int) ∧ wr.ownsRow w.heap.size 5 1 o k ((numL v k).map bv) ∧ Below w.heap.size w wr) (fun _ _ i _ => m - (intOf i).toNat)
  case atStart => exact ⟨0, Nat.zero_le _, rfl, by simp, World.ownsRow_nil _ _ _ _, Below.refl _ _⟩
  case round =>
    obtain ⟨k, hk, rfl, rfl, hown, hb⟩ := hrel
    by_cases hlt : k < m
    · obtain ⟨y, hy⟩ : ∃ y, y = v / 2 ^ (8 * k) := ⟨_, rfl⟩
      rw [← hy]
      have HY := Lib.hid hy
      clear hy
      have HO := Lib.hid hown
      clear hown
      go_wp2_with (at_builtin; refine wpList_append_own _ rfl _ _ 27 rfl w.heap.size 5 i0 (.int .u8 0) 1 1 Try.underlying27 hi hz0 hz1 hz2 rfl (by decide) _ _ _ rfl (HO.out.alloc _) ⟨wr.heap.size, 0, none⟩ 1 1 [.int .u8 ((y : Int) % 256)] rfl rfl ?c1 ?c2 ?c3 ?c4 ?c5 ?_)
      case c1 =>
        intro j u hj
        match j, hj with
        | 0, hj => simp at hj; subst hj; simp [Addr.add]
      case c2 => intro u hu; simp at hu; subst hu; rfl
      case c3 => unfold maxLen; omega
      case c4 => omega
      case c5 => have := hb.size; simp; omega
      intro v' w1 hown1 hgrow _
      have hb1 : Below w.heap.size w w1 := (hb.alloc hb.size _).grown hgrow (by have := hb.size; simp; omega) (fun q hq => (HO.out.lt q hq).1)
      have HB1 := Lib.hid hb1
      rw [num_byte v k y HY.out, ← List.map_singleton, ← List.map_append, ← numL_snoc] at hown1
      have HO1 := Lib.hid hown1
      clear hown1 hgrow hb1
      go_wp2
      go_roundw
      case rel => exact ⟨k + 1, by omega, by go_num, by rw [num_next v k y HV.out HY.out], HO1.out, HB1.out⟩
      case measure => simp [intOf]; omega
    · obtain rfl : k = m := by omega
      go_wp2
      go_ret
      exact ⟨_, rfl, hown, hb⟩

/-! ### the document's Same -/

set_option maxRecDepth 20000 in
set_option maxHeartbeats 400000 in
theorem same_no_len (A A' : Option Addr) (l c l' c' : Nat) (w : World) (h : l ≠ l') :
    Calls Try.prog 14 #[.slice A l c, .slice A' l' c'] w fun e w' => e = .returned (.bool false) ∧ w = w' := by
  have h1 : ((l : Int) != (l' : Int)) = true := by simp; omega
  go_enter Try.func14, Try.ntmps14
  go_wp2
  go_ret
  exact ⟨rfl, rfl⟩
end Go.Proofs.Ytckabekimdcdcaa
