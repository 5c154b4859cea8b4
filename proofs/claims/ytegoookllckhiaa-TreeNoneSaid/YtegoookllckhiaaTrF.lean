/-
  The library's Backward over four numbers; a region inside a round whose last operation is a call.
  Conditions: those that each line bears.
-/
import Derived.Test.YtegoookllckhiaaTrE
import Derived.Test.YtegoookllckhiaaLift
import Derived.RangeFuncBox
import Derived.RangeFuncLeaves
import Derived.RangeFuncWrites
import Derived.RangeFuncCalls
import Derived.LoopNIn
import Derived.LoopIn
namespace Go.Proofs.Ytegoookllckhiaa
open Go.RowKit Go.Shelf
set_option linter.unusedVariables false
attribute [local go_sem] Oper.semAt_some

/-- What blocks b and g have stays. -/
def KeepBG (b g : Nat) (W W' : World) : Prop := W'.heap[b]? = W.heap[b]? ∧ W'.heap[g]? = W.heap[g]?
theorem KeepBG.refl (b g : Nat) (W : World) : KeepBG b g W W := ⟨rfl, rfl⟩
theorem KeepBG.trans {b g : Nat} {A B C : World} (h : KeepBG b g A B) (k : KeepBG b g B C) : KeepBG b g A C := ⟨k.1.trans h.1, k.2.trans h.2⟩
/-- Four places, the last one first. -/
def downs (k : Nat) : List (Fin 4) := ([3, 2, 1, 0] : List (Fin 4)).take k
theorem downs_succ {j : Nat} (hj : j < 4) : downs (4 - (j + 1)) ++ [⟨j, hj⟩] = downs (4 - j) := by
  rcases four hj with rfl | rfl | rfl | rfl <;> rfl
def vI : Value → Int
  | .int _ z => z
  | _ => 0
def encW (way : List Nat) (x : Fin 4) : Array Value := #[.int .i64 ((x.1 : Nat) : Int), .int .i64 ((way.getD x.1 0 : Nat) : Int)]
set_option maxRecDepth 100000 in
set_option maxHeartbeats 1000000 in
theorem backward_any {n : Nat} (hn : 1 ≤ n) (Bx b o cap : Nat) (way : List Nat) (w : World) (hBx : Bx < w.heap.size) (hb : b < w.heap.size) (hx : w.cell? ⟨Bx, 0, none⟩ = some (.slice (some ⟨b, o, none⟩) 4 cap))
    (hc : ∀ j, j < 4 → w.cell? ⟨b, o + j, none⟩ = some (.int .i64 ((way.getD j 0 : Nat) : Int))) :
    SeqStopsK Fence.wide n Try.prog 70 #[.pointer (some ⟨Bx, 0, none⟩)] (encW way) (KeepBG b Bx) (fun ys => ys = downs 4) (fun _ => True) 4 w := by
  intro l J Jx W hW hJ _ hY h0
  have hx' : W.cell? ⟨Bx, 0, none⟩ = some (.slice (some ⟨b, o, none⟩) 4 cap) := (hW.cell (p := ⟨Bx, 0, none⟩) hBx).trans hx
  have hc' : ∀ j, j < 4 → W.cell? ⟨b, o + j, none⟩ = some (.int .i64 ((way.getD j 0 : Nat) : Int)) := fun j hj => (hW.cell (p := ⟨b, o + j, none⟩) hb).trans (hc j hj)
  have HC := Lib.hid hc'
  have HY := Lib.hid hY
  clear hx hc hc' hY
  refine callsIn_of_wp Try.func70 rfl trivial ?_ rfl
  simp only [Try.ntmps70, List.size_toArray, List.length_cons, List.length_nil, Nat.reduceAdd, Nat.reduceSub, Array.replicate_succ, Array.replicate_zero, List.push_toArray, List.append_toArray, List.nil_append, List.cons_append]
  gi_wp2
  gi_loopw [3] (fun i wr => ∃ j : Nat, j ≤ 4 ∧ i = .int .i64 ((j : Int) - 1) ∧ J (downs (4 - j)) wr ∧ KeepBG b Bx W wr)
    (fun i _ => (vI i + 1).toNat)
  case atStart => exact ⟨4, Nat.le_refl _, rfl, h0, KeepBG.refl _ _ _⟩
  case round =>
    obtain ⟨j, hj, rfl, hJs, hkp⟩ := hrel
    have HK := Lib.hid hkp
    have cx : wr.cell? ⟨Bx, 0, none⟩ = some (.slice (some ⟨b, o, none⟩) 4 cap) := (World.cell?_of_block hkp.2).trans hx'
    cases j with
    | zero =>
      gi_wp2
      go_end0
      exact ⟨⟨_, rfl⟩, .inl ⟨downs 4, rfl, hJs⟩⟩
    | succ j =>
      have hj4 : j < 4 := by omega
      have cb : wr.cell? ⟨b, o + j, none⟩ = some (.int .i64 ((way.getD j 0 : Nat) : Int)) := (World.cell?_of_block hkp.1).trans (HC.out j hj4)
      obtain ⟨fn, tmps, assign, body, hy, hR⟩ := HY.out (downs (4 - (j + 1))) ⟨j, hj4⟩ wr hJs (by unfold downs; rw [List.length_take]; simp; omega)
      unfold encW at hy
      dsimp only at hy
      obtain ⟨y, hyy⟩ : ∃ y, y = way.getD j 0 := ⟨_, rfl⟩
      rw [← hyy] at hy cb
      have e1 : (((j + 1 : Nat) : Int) - 1) = (j : Int) := by omega
      rw [e1]
      have t1 : decide ((0 : Int) ≤ (j : Int)) = true := decide_eq_true (by omega)
      have t2 : (j : Int) < 4 := by omega
      have t3 : (0 : Int) ≤ (j : Int) := by omega
      rw [downs_succ hj4] at hR
      clear hkp hyy hx'
      gi_wp2
      refine hR.mono ?_
      rintro e W3 (⟨rfl, hJ3, hk3⟩ | ⟨rfl, hJx3⟩)
      · gi_wp2
        go_roundw
        case rel => exact ⟨j, by omega, by go_num, hJ3, HK.out.trans hk3⟩
        case measure => simp [vI]
      · gi_wp2
        refine bodyPost_ret (results_none rfl _ _ _) rfl ?_
        exact ⟨⟨_, rfl⟩, .inr ⟨_, trivial, hJx3⟩⟩

/-! ### a region inside a round, with calls in it -/
def CallRes : Result Next → Prop
  | .ok (.value _) _ | .ok .skip _ | .ok (.enter _ _) _ | .halt _ _ => True
  | _ => False
theorem callRes_of_plain {r : Result Next} (h : PlainRes r) : CallRes r := by
  match r, h with
  | .ok (.value _) _, _ => exact trivial
  | .ok .skip _, _ => exact trivial
  | .halt _ _, _ => exact trivial
def OkIn (P : Program) (o : Oper) : Prop := (∀ c, o.op ≠ .defer c) ∧ ∀ (a : Act) (w : World), CallRes ((execOp a.eval o).run P w)
theorem OkIn.of_plain {P : Program} {o : Oper} (h : plainOp o = true) : OkIn P o := ⟨plain_defer h, fun ρ w => callRes_of_plain (plain_res h)⟩
theorem upon_in2 {l n : Nat} {P : Program} {o : Oper} {a : Act} {K : Act → World → Prop} {Q : Exit → Act → World → Prop} {r : Result Next} (hr : CallRes r) (h : o.upon P a K Q r) : o.uponIn (Fence.wide.inRound l) n P a K Q r := by
  match r, hr, h with
  | .ok (.value v) w', _, h => exact h
  | .ok .skip w', _, h => exact h
  | .ok (.enter f args) w', _, h => exact ⟨fun e => (by cases e), CallsIn.inRound l (callsIn_wide.2 h)⟩
  | .halt (.panic v) w', _, h => exact h
theorem wpOpIn_of2 {l n : Nat} {P : Program} {ops : Array Oper} {Q : Exit → Act → World → Prop} {i : Nat} {K K' : Act → World → Prop} {a : Act} {w : World} (hp : ∀ o ∈ ops, OkIn P o) (hL : ¬ LetsOut Q) (hK : ∀ a w, K a w → K' a w)
    (h : wpOp P ops Q i K a w) : wpOpIn (Fence.wide.inRound l) n P ops Q i K' a w := by
  unfold wpOp at h
  unfold wpOpIn
  cases ho : ops[i]? with
  | none => rw [ho] at h; exact hK _ _ h
  | some o =>
    rw [ho] at h
    have hpo := hp o (Array.mem_of_getElem? ho)
    have hab : ∀ f, o.about P w a.eval = some f → (Fence.wide.inRound l).fn f := fun f _ => trivial
    simp only at h ⊢
    split at h
    · rename_i hw
      rw [if_pos hw]
      rcases h with h | h
      · refine ⟨hab, ?_⟩
        rw [Oper.semAt_eq _ _ _ hpo.1]
        exact upon_in2 (hpo.2 _ _) (Oper.wp_mono hK h)
      · exact absurd h.2 hL
    · rename_i hw
      rw [if_neg hw]
      exact ⟨hab, hK _ _ h⟩
theorem wpAnyIn_of2 {l n : Nat} {P : Program} {md : Region.Mode} {ops : Array Oper} {Q : Exit → Act → World → Prop} (hp : ∀ o ∈ ops, OkIn P o) (hL : ¬ LetsOut Q) :
    ∀ (fuel : Nat) (listed : Array Bool) (a : Act) (w : World), wpAny P md ops Q fuel listed a w → wpAnyIn (Fence.wide.inRound l) n P md ops Q fuel listed a w
  | 0, _, _, _, h => h
  | fuel + 1, listed, a, w, h => ⟨h.1, fun i hi => wpOpIn_of2 hp hL (fun a' w' h' => wpAnyIn_of2 hp hL fuel _ a' w' h') (h.2 i hi)⟩
theorem wpIn_region_tail2 {l n : Nat} {P : Program} {id : Nat} {os : List Oper} {Q : Exit → Act → World → Prop} {a : Act} {w : World} (k : Nat) (hm : P.follows .mixedOrders = true) (hp : ∀ o ∈ os, OkIn P o) (hB : Region.lexTailB .any os.toArray k = true)
    (h : wpStill P os.toArray w.drew (fun a' => wpList P os.toArray (OnlyNormal Q) (os.drop k) a' w.drew) (os.take k) a) : (Code.region id os.toArray true).wpIn (Fence.wide.inRound l) n P Q a w := by
  refine Code.wpIn_mono (Q := OnlyNormal Q) ?_ (wpIn_region_any hm (wpAnyIn_of2 (fun o ho => ?_) ?_ _ _ _ _ (wpAny_tail k hB h)))
  · rintro e a' w' ⟨rfl, h⟩
    exact h
  · exact hp o (by simpa using ho)
  · rintro ⟨a', w', h1, _⟩
    cases h1
theorem okIn_call {P : Program} {o : Oper} {c : Call} {f : Nat} (ho : o.op = .call c) (hf : c.callee = .value (.func f)) (he : ∀ args w, (callFunc f args).run P w = .ok (.enter f args) w) : OkIn P o := by
  refine ⟨fun c' e => ?_, fun a w => ?_⟩
  · rw [ho] at e; cases e
  · have e : (execOp a.eval o).run P w = .ok (.enter f (c.args.map a.eval)) w := by
      simp only [execOp, ho, resolve, hf]
      simp [Act.eval, Deferred.ofValue, invoke, he, go_sem]
    rw [e]
    exact trivial
end Go.Proofs.Ytegoookllckhiaa
