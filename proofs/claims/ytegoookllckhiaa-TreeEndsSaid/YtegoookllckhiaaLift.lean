/-
  A region that draws its order and holds no call is walked inside a fence as it is outside of one. Nothing of the program is named here.
  Conditions: moves, loads, stores, indices' addresses and operations on numbers alone; nothing is let out.
-/
import Derived.Test.YtegoookllckhiaaBas
import Derived.Shelf.SlIterI.Stops
import Derived.OrdersHeld
import Derived.StillTailTactics
namespace Go.Proofs.Ytegoookllckhiaa
open Go.RowKit
set_option linter.unusedVariables false

/-- An operation that is no call. -/
def plainOp (o : Oper) : Bool :=
  match o.op with
  | .move _ | .assign _ | .load _ _ | .store _ _ _ | .binOp _ _ _ _ _ | .indexAddr _ _ _ => true
  | _ => false
/-- What such an operation comes to. -/
def PlainRes : Result Next → Prop
  | .ok (.value _) _ | .ok .skip _ | .halt _ _ => True
  | _ => False
theorem plain_value {P : Program} {w : World} (s : Sem Value) : PlainRes ((s >>= fun v => (pure (.value v) : Sem Next)).run P w) := by
  rw [Sem.run_bind]
  cases s.run P w with
  | ok v w' => exact trivial
  | halt h w' => exact trivial
theorem plain_skip {P : Program} {w : World} (s : Sem Unit) : PlainRes ((s >>= fun _ => (pure .skip : Sem Next)).run P w) := by
  rw [Sem.run_bind]
  cases s.run P w with
  | ok v w' => exact trivial
  | halt h w' => exact trivial
theorem plain_res {P : Program} {w : World} {ρ : Operand → Value} {o : Oper} (hp : plainOp o = true) : PlainRes ((execOp ρ o).run P w) := by
  obtain ⟨dst, op, type, pos, after, guard⟩ := o
  cases op <;> first | exact absurd (show (false : Bool) = true from hp) (by decide) | exact trivial | exact plain_value _ | exact plain_skip _
theorem plain_about {P : Program} {w : World} {ρ : Operand → Value} {o : Oper} (hp : plainOp o = true) : o.about P w ρ = none := by
  obtain ⟨dst, op, type, pos, after, guard⟩ := o
  cases op <;> first | rfl | exact absurd (show (false : Bool) = true from hp) (by decide)
theorem plain_defer {o : Oper} (hp : plainOp o = true) : ∀ c, o.op ≠ .defer c := by
  intro c e
  unfold plainOp at hp
  rw [e] at hp
  cases hp
theorem upon_in {F : Fence} {n : Nat} {P : Program} {o : Oper} {a : Act} {K : Act → World → Prop} {Q : Exit → Act → World → Prop} {r : Result Next} (hr : PlainRes r) (h : o.upon P a K Q r) : o.uponIn F n P a K Q r := by
  match r, hr, h with
  | .ok (.value v) w', _, h => exact h
  | .ok .skip w', _, h => exact h
  | .halt (.panic v) w', _, h => exact h
theorem wpOpIn_of {F : Fence} {n : Nat} {P : Program} {ops : Array Oper} {Q : Exit → Act → World → Prop} {i : Nat} {K K' : Act → World → Prop} {a : Act} {w : World} (hp : ∀ o ∈ ops, plainOp o = true) (hL : ¬ LetsOut Q) (hK : ∀ a w, K a w → K' a w)
    (h : wpOp P ops Q i K a w) : wpOpIn F n P ops Q i K' a w := by
  unfold wpOp at h
  unfold wpOpIn
  cases ho : ops[i]? with
  | none => rw [ho] at h; exact hK _ _ h
  | some o =>
    rw [ho] at h
    have hpo := hp o (Array.mem_of_getElem? ho)
    have hab : ∀ f, o.about P w a.eval = some f → F.fn f := fun f hf => by rw [plain_about hpo] at hf; cases hf
    simp only at h ⊢
    split at h
    · rename_i hw
      rw [if_pos hw]
      rcases h with h | h
      · refine ⟨hab, ?_⟩
        rw [Oper.semAt_eq _ _ _ (plain_defer hpo)]
        exact upon_in (plain_res hpo) (Oper.wp_mono hK h)
      · exact absurd h.2 hL
    · rename_i hw
      rw [if_neg hw]
      exact ⟨hab, hK _ _ h⟩
theorem wpAnyIn_of {F : Fence} {n : Nat} {P : Program} {md : Region.Mode} {ops : Array Oper} {Q : Exit → Act → World → Prop} (hp : ∀ o ∈ ops, plainOp o = true) (hL : ¬ LetsOut Q) :
    ∀ (fuel : Nat) (listed : Array Bool) (a : Act) (w : World), wpAny P md ops Q fuel listed a w → wpAnyIn F n P md ops Q fuel listed a w
  | 0, _, _, _, h => h
  | fuel + 1, listed, a, w, h => ⟨h.1, fun i hi => wpOpIn_of hp hL (fun a' w' h' => wpAnyIn_of hp hL fuel _ a' w' h') (h.2 i hi)⟩
/-- It ends in just one way. -/
def OnlyNormal (Q : Exit → Act → World → Prop) : Exit → Act → World → Prop := fun e a w => e = .normal ∧ Q .normal a w
theorem OnlyNormal.mk {Q : Exit → Act → World → Prop} {a : Act} {w : World} (h : Q .normal a w) : OnlyNormal Q .normal a w := ⟨rfl, h⟩
/-- Reads in whatever order, and then what is left in its own. -/
theorem wpAny_tail {P : Program} {Q : Exit → Act → World → Prop} {a : Act} {W : World} {l : List Oper} (k : Nat) (hB : Region.lexTailB .any l.toArray k = true)
    (h : wpStill P l.toArray W (fun a' => wpList P l.toArray Q (l.drop k) a' W) (l.take k) a) : wpAny P .any l.toArray Q l.toArray.size (Array.replicate l.toArray.size false) a W := by
  unfold Region.lexTailB at hB
  rw [Bool.and_eq_true, Bool.and_eq_true, Bool.and_eq_true, Bool.and_eq_true, decide_eq_true_eq] at hB
  have hk : k < l.length := by simpa using hB.1.1.1.2
  have e1 : (l.take k).length = k := List.length_take_of_le (Nat.le_of_lt hk)
  have e2 : (l.drop k).length = l.toArray.size - k := by rw [List.length_drop]; simp
  have hI : HeadInv .any l.toArray k (Array.replicate l.toArray.size false) := by
    refine ⟨by simp, fun j oj _ hj => ?_, fun t _ ht => getD_in (by simpa using ht) (getD_replicate_false _ _)⟩
    rw [getD_replicate_false] at hj
    cases hj
  have hA := wpAnyL_lex (md := .any) (g := l.toArray.size - k) hB.1.1.1.1 hB.1.1.2 hB.1.2 hB.1.1.1.2 (l.take k) 0 _ a
    (fun j hj => by rw [e1] at hj; simp [hj]) (by rw [e1]; exact Nat.zero_add k) hI (by rw [e1]; exact hB.2) h
  have hR := wpAny_of_head (Q' := Q) (g := l.toArray.size - k) (fun listed a' hL => by
    have hS := wpAny_of_seq (md := .any) (Q' := Q) (l.drop k) k listed a' W (fun j => by simp [List.getElem?_drop]) (by rw [e2]; exact hL.1) hL.2
    rwa [e2] at hS) _ _ _ hA
  rwa [e1, Nat.add_sub_cancel' (by simpa using Nat.le_of_lt hk)] at hR
/-- The region inside a fence: reads, and then what is left. -/
theorem wpIn_region_tail {F : Fence} {n : Nat} {P : Program} {id : Nat} {l : List Oper} {Q : Exit → Act → World → Prop} {a : Act} {w : World} (k : Nat) (hm : P.follows .mixedOrders = true) (hp : l.all plainOp = true) (hB : Region.lexTailB .any l.toArray k = true)
    (h : wpStill P l.toArray w.drew (fun a' => wpList P l.toArray (OnlyNormal Q) (l.drop k) a' w.drew) (l.take k) a) : (Code.region id l.toArray true).wpIn F n P Q a w := by
  refine Code.wpIn_mono (Q := OnlyNormal Q) ?_ (wpIn_region_any hm (wpAnyIn_of (fun o ho => ?_) ?_ _ _ _ _ (wpAny_tail k hB h)))
  · rintro e a' w' ⟨rfl, h⟩
    exact h
  · exact List.all_eq_true.1 hp o (by simpa using ho)
  · rintro ⟨a', w', h1, _⟩
    cases h1
end Go.Proofs.Ytegoookllckhiaa
