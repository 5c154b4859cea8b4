/-
  The bad frames as a loop over the map's keys hands them on: each once, each one of those that there are.
  Conditions: the map is a registry's.
-/
import Derived.Test.YtfnegbcpiejdaabRegS
import Derived.Test.YtfnegbcpiejdaabLift
import Derived.RangeFuncBox
import Derived.RangeFuncLeaves
import Derived.RangeFuncWrites
import Derived.LoopNIn
import Derived.LoopIn
import Derived.Sort.LoopGhostIn
namespace Go.Proofs.Ytfnegbcpiejdaab
open Go.RowKit Go.Shelf Go.Maps Go.Sort
set_option linter.unusedVariables false
attribute [local go_sem] Oper.semAt_some

/-- A frame's number. -/
abbrev Fr := { j : Nat // j < 1024 }
def encF (j : Fr) : Value := .int .i64 ((j.1 : Nat) : Int)
def frZ (ss : List Fr) : List Int := ss.map (fun j => ((j.1 : Nat) : Int))
theorem frZ_snoc (ss : List Fr) (j : Fr) : frZ (ss ++ [j]) = frZ ss ++ [((j.1 : Nat) : Int)] := by simp [frZ]
set_option maxRecDepth 100000 in
set_option maxHeartbeats 1000000 in
theorem keysF_any {n : Nat} (hn : 1 ≤ n) (Bm gB : Nat) (L : Nat → Option Value) (D : VDat) (w : World) (hBm : Bm < w.heap.size) (hm : w.cell? ⟨Bm, 0, none⟩ = some (.map (some gB))) (hown : w.ownsMap Try.prog 3 valR gB 1024 D)
    (hin : ∀ x, Maps.has D (.int .i64 x) = true → ∃ j : Nat, j < 1024 ∧ x = (j : Int)) :
    SeqStops Fence.wide n Try.prog 55 #[.pointer (some ⟨Bm, 0, none⟩)] encF (fun ss => (frZ ss).Perm (intKeys D)) (fun _ => True) (Maps.size D) w := by
  intro l J Jx W hW hJ _ hY h0
  have hbl := hown.lt
  have hm' : W.cell? ⟨Bm, 0, none⟩ = some (.map (some gB)) := (hW.cell (p := ⟨Bm, 0, none⟩) hBm).trans hm
  have hown' : W.ownsMap Try.prog 3 valR gB 1024 D := by
    obtain ⟨es, clock, hb, Ft, hs, hD⟩ := hown
    exact ⟨es, clock, (hW.block gB hbl).trans hb, Ft, hs, hD⟩
  clear hm hown
  refine callsIn_of_wp Try.func55 rfl trivial ?_ rfl
  simp only [Try.ntmps55, List.size_toArray, List.length_cons, List.length_nil, Nat.reduceAdd, Nat.reduceSub, Array.replicate_succ, Array.replicate_zero, List.push_toArray, List.append_toArray, List.nil_append, List.cons_append]
  gi_wp2_with (first
    | (gi_at_range; refine wpListIn_range_own _ rfl _ 71 rfl 3 80 (int_keyed Try.underlying3) Try.underlying71 _ gB 1024 _ rfl hown' ?_; intro w0 hrg0 hg0 hs0)
    | gi_in)
  go_frame
  gi_loopw [3] (fun _ wr => ∃ (left : Lit → Bool) (cnt : Nat) (ss : List Fr), wr.ranges Try.prog 3 valR gB W.heap.size 1024 D left cnt ∧ ss.length + cnt ≤ Maps.size D ∧ CollectedI D left (frZ ss) ∧ J ss wr)
    (fun _ wr => wr.rangeLeft gB W.heap.size)
  case atStart =>
    exact ⟨_, _, [], hrg0, by simp, CollectedI.start D, hJ [] W w0 none h0 hg0 (fun r e => by cases e)⟩
  case round =>
    obtain ⟨left, cnt, ss, hrg, hcs, hC, hJs⟩ := hrel
    gi_wp2_with (first
      | (gi_at_next; refine wpListIn_next_ranges _ rfl _ rfl 3 (int_keyed Try.underlying3) valR encZ id (fun key kl hk => by obtain ⟨x, hx, _⟩ := Maps.keyOf_i64 Try.underlying3 hk; exact ⟨x, hx⟩) (fun v _ _ => ⟨v, rfl⟩) gB W.heap.size 1024 _ _ _ rfl hrg ?_ ?_)
      | gi_in)
    · intro hc0 hl0
      gi_wp2
      go_end0
      exact ⟨⟨_, rfl⟩, .inl ⟨ss, hC.perm hown' (int_keyed Try.underlying3) Try.underlying3 hl0, hJs⟩⟩
    · intro x c kl yd yp w2 cnt2 hkey hlk hv hat hrg2 hlt hg2 hs2 hen
      obtain ⟨x', ex, rfl, _⟩ := Maps.keyOf_i64 Try.underlying3 hkey
      obtain rfl : x = x' := encZ_inj ex
      obtain ⟨j, hj, rfl⟩ := hin x (has_true_of_atKey hat)
      have hJ2 : J ss w2 := hJ ss wr w2 (some W.heap.size) hJs hg2 (fun r e => by cases e; exact ⟨Nat.le_refl _, hrg.iter_walk⟩)
      obtain ⟨fn, tmps, assign, body, hy, hR⟩ := hY ss ⟨j, hj⟩ w2 hJ2 (by omega)
      have hy' := hy
      unfold encF at hy'
      clear hs2 hy
      gi_wp2
      refine hR.mono ?_
      have hC2 := hC.step hlk hat
      rintro e W3 (⟨rfl, hJ3, hk3⟩ | ⟨rfl, hJx3⟩)
      · gi_wp2
        have hrg3 := hrg2.of_walks hk3
        go_roundw
        case rel => exact ⟨_, cnt2, ss ++ [⟨j, hj⟩], hrg3, by simp; omega, by rw [frZ_snoc]; exact hC2, hJ3⟩
        case measure => rw [hrg3.left_eq, hrg.left_eq]; exact hlt
      · gi_wp2
        refine bodyPost_ret (results_none rfl _ _ _) rfl ?_
        exact ⟨⟨_, rfl⟩, .inr ⟨ss ++ [⟨j, hj⟩], trivial, hJx3⟩⟩
end Go.Proofs.Ytfnegbcpiejdaab
