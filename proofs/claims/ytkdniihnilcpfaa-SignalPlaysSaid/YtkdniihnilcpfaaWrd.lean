/-
  The contracts of word's Get, Put and Sum, and of the document's own; bytes in the program's numbering.
  Conditions: those that each line bears.
-/
import Derived.Test.YtkdniihnilcpfaaProg
import Derived.Test.YtkdniihnilcpfaaBas
import Derived.WalkKit
import Derived.WalkSpells
import Derived.Lib.Hide
import Derived.Deep.QuietTactic
import Derived.BigQuiet

/-! ## Get: The contracts of word.fits and word.Get: the number of the bytes at a place, or 0 and false; nothing is changed.   Conditions: the bytes are read in memory. -/
namespace Go.Proofs.Ytkdniihnilcpfaa
open Go.RowKit
set_option linter.unusedVariables false

/-- The places that may be: n bytes from at on in a list of l bytes. -/
def Fit (l : Nat) (at_ n : Int) : Prop := 0 ≤ n ∧ n ≤ 8 ∧ 0 ≤ at_ ∧ at_ + n ≤ l
def NoFit (l : Nat) (at_ n : Int) : Prop := n < 0 ∨ 8 < n ∨ at_ < 0 ∨ l < at_ + n
theorem fit_or (l : Nat) (at_ n : Int) : Fit l at_ n ∨ NoFit l at_ n := by unfold Fit NoFit; omega

theorem ret_u64_bool {a b : Int} {t : Bool} (h : a = b) : Ending.returned (.tuple #[.int .u64 a, .bool t]) = .returned (.tuple #[.int .u64 b, .bool t]) := by rw [h]

/-- What Get answers. -/
def getV (xs : List Nat) (at_ n : Int) : Int := ((le (win xs at_.toNat n.toNat) : Nat) : Int)

end Go.Proofs.Ytkdniihnilcpfaa

/-! ## Sum: The contracts of word.Sum and of the document's own Sum: both answer the sum of all bytes, one behind the other, and change nothing.   Conditions: the parts are read in memory. -/
namespace Go.Proofs.Ytkdniihnilcpfaa
open Go.RowKit

theorem ret_u32 {a b : Int} (h : a = b) : Ending.returned (.int .u32 a) = .returned (.int .u32 b) := by rw [h]

theorem sum_step (xs : List Nat) (k : Nat) (hk : k < xs.length) (hb : xs.getD k 0 < 256) :
    IntKind.u64.wrap (bits .xor .u64 (sumI (xs.take k)) ((xs[k]?.getD 0 : Nat) : Int) * 1099511628211) = sumI (xs.take (k + 1)) := by
  have e : xs.take (k + 1) = xs.take k ++ [xs.getD k 0] := by
    rw [List.take_succ_eq_append_getElem hk]
    simp [hk]
  rw [e]
  simp only [List.getD_eq_getElem?_getD] at hb ⊢
  exact sumI_snoc _ _ hb

/-- A slice of slices of bytes. -/
def Parts (w : World) (B : Nat) (v : Value) (xss : List (List Nat)) : Prop :=
  ∃ A n c, v = .slice A n c ∧ xss.length = n ∧ n ≤ maxLen ∧
    (0 < n → ∃ b off, A = some ⟨b, off, none⟩ ∧ ∀ j, j < n → ∃ u, w.cell? ⟨b, off + j, none⟩ = some u ∧ Bts w B u (xss.getD j []))

theorem sum_step2 (ps xs : List Nat) (k : Nat) (hk : k < xs.length) (hb : xs.getD k 0 < 256) :
    IntKind.u64.wrap (bits .xor .u64 (sumI (ps ++ xs.take k)) ((xs[k]?.getD 0 : Nat) : Int) * 1099511628211) = sumI (ps ++ xs.take (k + 1)) := by
  have e : xs.take (k + 1) = xs.take k ++ [xs.getD k 0] := by
    rw [List.take_succ_eq_append_getElem hk]
    simp [hk]
  rw [e, ← List.append_assoc]
  simp only [List.getD_eq_getElem?_getD] at hb ⊢
  exact sumI_snoc _ _ hb
theorem flat_step (xss : List (List Nat)) (k : Nat) (hk : k < xss.length) : (xss.take (k + 1)).flatten = (xss.take k).flatten ++ xss.getD k [] := by
  have e : xss.getD k [] = xss[k] := by simp [hk]
  rw [List.take_succ_eq_append_getElem hk, List.flatten_append, e]
  simp only [List.flatten_cons, List.flatten_nil, List.append_nil]

end Go.Proofs.Ytkdniihnilcpfaa

/-! ## Put: The contracts of word.Put, of the document's Num and of its Same: a number's bytes laid into memory at a place, or nothing; a number's bytes as a list; whether two lists of bytes are the same.   Conditions: the block that is written is known whole; at most eight bytes of a number. -/
namespace Go.Proofs.Ytkdniihnilcpfaa
open Go.RowKit
set_option linter.unusedVariables false

theorem put_byte (v k : Nat) : Value.int .u8 ((v : Int) / 2 ^ (8 * k) % 256) = bv (dig v k) := by
  unfold dig bv
  rw [Int.natCast_emod, Int.natCast_ediv, Int.natCast_pow]
  rfl

/-- What Put leaves: block g with n bytes of v from p on; all else as it was. -/
def PutPost (w w' : World) (g : Nat) (t : TypeId) (cur : Array Value) : Prop :=
  Blk w' g t cur ∧ w.grownBy w' (some g) ∧ w'.heap.size = w.heap.size

theorem PutPost.step {w w' : World} {g : Nat} {t : TypeId} {cur : Array Value} (h : PutPost w w' g t cur) (i : Nat) (u : Value) : PutPost w (w'.setCell ⟨g, i, none⟩ u) g t (cur.setIfInBounds i u) := by
  obtain ⟨h1, h2, h3⟩ := h
  refine ⟨h1.set_ i u, ⟨h2.os, h2.tape, h2.output, by simpa [World.setCell] using h2.size, fun k hk hne => ?_⟩, by simpa [World.setCell] using h3⟩
  rw [Below.heap_setCell _ _ _ _ (by rintro rfl; exact hne rfl)]
  exact h2.block k hk hne

/-! ### the document's Num -/

theorem Try.info5 : (Try.prog.info? 5).map (fun i => (i.zero, i.size, i.bytes)) = some (some (.int .u8 0), 1, 1) := by kernel_rfl

theorem num_byte (v k y : Nat) (h : y = v / 2 ^ (8 * k)) : Value.int .u8 ((y : Int) % 256) = bv (dig v k) := by
  subst h
  unfold dig bv
  rfl
theorem num_next (v k y : Nat) (hv : v < 18446744073709551616) (h : y = v / 2 ^ (8 * k)) : IntKind.u64.wrap ((y : Int) / 256) = ((v / 2 ^ (8 * (k + 1)) : Nat) : Int) := by
  have h1 : v / 2 ^ (8 * (k + 1)) = y / 256 := by
    subst h
    rw [show 8 * (k + 1) = 8 * k + 8 by omega, Nat.pow_add, ← Nat.div_div_eq_div_mul]
  have h2 : y ≤ v := by rw [h]; exact Nat.div_le_self _ _
  rw [h1, IntKind.wrap_u64]
  omega

end Go.Proofs.Ytkdniihnilcpfaa

/-! ## Same: The contract of the document's Same: whether two lists of bytes are the same.   Conditions: both are read in memory. -/
namespace Go.Proofs.Ytkdniihnilcpfaa
open Go.RowKit
set_option linter.unusedVariables false

def Drew (w w' : World) : Prop := ∃ m, w' = w.drewN m

end Go.Proofs.Ytkdniihnilcpfaa

/-! ## RefGet: The contract of the document's own Get: the number of the bytes at a place, or 0 and false; nothing is changed.   Conditions: the bytes are read in memory. -/
namespace Go.Proofs.Ytkdniihnilcpfaa
open Go.RowKit
end Go.Proofs.Ytkdniihnilcpfaa

/-! ## U8: Bytes in the program's own numbering: their size, their zero, a slice of zeros made.   Conditions: none beside those that each line bears. -/
namespace Go.Proofs.Ytkdniihnilcpfaa
open Go.RowKit
set_option linter.unusedVariables false

theorem Try.size8 : (Try.prog.info? 5).map (·.size) = some 1 := by kernel_rfl
theorem Try.zero8 (w : World) : (zeroValue 5).run Try.prog w = .ok (.int .u8 0) w := by kernel_rfl

theorem Try.info8 : (Try.prog.info? 5).map (fun i => (i.zero, i.size, i.bytes)) = some (some (.int .u8 0), 1, 1) := by kernel_rfl
end Go.Proofs.Ytkdniihnilcpfaa
