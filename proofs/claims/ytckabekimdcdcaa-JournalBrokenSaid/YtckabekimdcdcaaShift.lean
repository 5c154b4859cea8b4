/-
  One bit of a number of 64: 'x >> i & 1'. Nothing of the program is named here.
  Conditions: none beside those that each line bears.
-/
import Derived.Test.YtckabekimdcdcaaPlain
import Derived.Laws.Shifts
import Derived.Laws.ShiftsVarLaws
import Derived.WalkKit
namespace Go.Proofs.Ytckabekimdcdcaa
open Go.RowKit
set_option linter.unusedVariables false

def shN (K k : Nat) : Int := ((K / 2 ^ min k 64 : Nat) : Int)
theorem shift_nat (K k : Nat) (kd : IntKind) : Op.shift .shr .u64 (K : Int) kd (k : Int) = pure (.int .u64 (shN K k)) := by
  rw [shift_shr_any .u64 kd (K : Int) (k : Int) (by omega)]
  unfold shN
  rw [Int.natCast_ediv, Int.natCast_pow]
  rfl
theorem and_one (K k : Nat) (b : Bool) (hK : K < 18446744073709551616) (hb : K.testBit k = b) : bits .and .u64 (shN K k) 1 = if b = true then 1 else 0 := by
  subst hb
  unfold shN
  have h1 : K / 2 ^ min k 64 < 18446744073709551616 := Nat.lt_of_le_of_lt (Nat.div_le_self _ _) hK
  rw [show (1 : Int) = ((1 : Nat) : Int) from rfl, u64_and_nat _ _ h1 (by omega), Nat.and_one_is_mod]
  have h2 : K.testBit k = (K / 2 ^ min k 64 % 2 == 1) := by
    rcases Nat.lt_or_ge 64 k with h | h
    · rw [Nat.min_eq_right (by omega), Nat.div_eq_of_lt (by simpa using hK)]
      exact Nat.testBit_lt_two_pow (Nat.lt_of_lt_of_le hK (Nat.le_trans (by decide : 18446744073709551616 ≤ 2 ^ 64) (Nat.pow_le_pow_right (by omega) (by omega))))
    · rw [Nat.min_eq_left h, Nat.testBit_eq_decide_div_mod_eq]
      rfl
  rw [h2]
  have h3 : K / 2 ^ min k 64 % 2 < 2 := Nat.mod_lt _ (by omega)
  generalize K / 2 ^ min k 64 % 2 = m at h3 ⊢
  match m, h3 with
  | 0, _ => rfl
  | 1, _ => rfl
theorem wpList_shr_nat {P : Program} {w : World} {ops : Array Oper} {rest : List Oper} {o : Oper} {a : Act} {Q : Exit → Act → World → Prop} (hg : o.guard = none) (x y : Operand) (t t' : TypeId) (hop : o.op = Op.binOp .shr t x y t')
    (K k : Nat) (hx : a.eval x = .int .u64 (K : Int)) (hy : a.eval y = .int .i64 (k : Int)) (h : wpList P ops Q rest (a.put o.dst (.int .u64 (shN K k))) w) : wpList P ops Q (o :: rest) a w := by
  refine wpList_plain hg fun K' hK' => ?_
  unfold Oper.wp
  simp [execOp, hop, hx, hy, binOp_shr, shift_nat, eqGuard_shr]
  exact hK' _ _ h
theorem wpList_and_one {P : Program} {w : World} {ops : Array Oper} {rest : List Oper} {o : Oper} {a : Act} {Q : Exit → Act → World → Prop} (hg : o.guard = none) (x y : Operand) (t t' : TypeId) (hop : o.op = Op.binOp .and t x y t')
    (K k : Nat) (b : Bool) (hK : K < 18446744073709551616) (hb : K.testBit k = b) (hx : a.eval x = .int .u64 (shN K k)) (hy : a.eval y = .int .u64 1) (h : wpList P ops Q rest (a.put o.dst (.int .u64 (if b = true then 1 else 0))) w) : wpList P ops Q (o :: rest) a w := by
  refine wpList_plain hg fun K' hK' => ?_
  have e : binOp .and t (.int .u64 (shN K k)) (.int .u64 1) = pure (.int .u64 (if b = true then 1 else 0)) := by rw [← and_one K k b hK hb]; rfl
  unfold Oper.wp
  simp [execOp, hop, hx, hy, e]
  exact hK' _ _ h
end Go.Proofs.Ytckabekimdcdcaa
