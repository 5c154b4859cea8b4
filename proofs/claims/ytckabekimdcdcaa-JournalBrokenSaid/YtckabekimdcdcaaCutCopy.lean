/-
  'copy' of bytes that may be cut short by the room that there is. Nothing of the program is named here.
  Conditions: none beside those that each line bears.
-/
import Derived.Test.YtckabekimdcdcaaOver
import Derived.Lib.Hide
namespace Go.Proofs.Ytckabekimdcdcaa
open Go.RowKit
set_option linter.unusedVariables false

theorem run_copy_cut {P : Program} {w : World} (dT sT ty : TypeId) (elem : TypeId) (hu : P.underlying dT = some (.slice elem)) (hsz : (P.info? elem).map (·.size) = some 1)
    (sp : Option Addr) (dLen dCap sLen sCap : Nat) (g off : Nat) (cur : Array Value) (t : TypeId) (hg : Blk w g t cur) (ys : List Nat) (B : Nat) (hr : Bts w B (.slice sp sLen sCap) ys)
    (hn : dLen ≤ ys.length) (hfit : off + dLen ≤ cur.size) :
    ∃ w', (Builtin.copy_ #[dT, sT] ty #[.slice (some ⟨g, off, none⟩) dLen dCap, .slice sp sLen sCap]).run P w = .ok (goInt (dLen : Nat)) w' ∧ Blk w' g t (splice cur.toList off ((ys.take dLen).map bv)).toArray ∧ Only g w w' := by
  have hl := bts_len hr
  by_cases h0 : dLen = 0
  · subst h0
    refine ⟨w, ?_, by simpa [splice] using hg, Only.refl _ _⟩
    have hrun := run_copy_none (P := P) w dT sT ty elem (some ⟨g, off, none⟩) sp 0 dCap sLen sCap hu hsz (by simp)
    simpa using hrun
  · obtain ⟨ad, rfl, hsrc⟩ := bts_src hr (by omega)
    have hlen : ((ys.take dLen).map bv).length = dLen := by rw [List.length_map, List.length_take]; omega
    have hrun := run_copy_row (P := P) w dT sT ty elem g off dLen dCap ad sLen sCap cur t ((ys.take dLen).map bv) hu hsz hg (by rw [hlen]; exact (Nat.min_eq_right (by omega)).symm) (fun j v hv => hsrc j v (by
      rw [List.map_take, List.getElem?_take] at hv
      split at hv
      · exact hv
      · cases hv)) (by rw [hlen]; exact hfit) (map_bv_one _)
    rw [hlen] at hrun
    refine ⟨_, hrun, show _ = _ from ?_, Only.setRow (cur := cur) (t := t) _⟩
    have h9 := setRow_heap w g _ (cur.toList.take off ++ (ys.take dLen).map bv ++ cur.toList.drop (off + dLen)).toArray t _ hg
    rw [h9]
    unfold splice
    rw [hlen, List.append_assoc]
theorem step_copy_cut {P : Program} {ops : Array Oper} {o : Oper} {a : Act} {w : World} {K : Act → World → Prop} {Q : Exit → Act → World → Prop} {E : Prop} (hgd : o.guard = none) (d s : Operand) (dT sT : TypeId)
    (ho : o.op = .call { callee := .builtin .copy, args := #[d, s], argTypes := #[dT, sT] }) (elem : TypeId) (hu : P.underlying dT = some (.slice elem)) (hsz : (P.info? elem).map (·.size) = some 1)
    (sp : Option Addr) (dLen dCap sLen sCap : Nat) (g off : Nat) (hd : a.eval d = .slice (some ⟨g, off, none⟩) dLen dCap) (hs : a.eval s = .slice sp sLen sCap)
    (cur : Array Value) (t : TypeId) (hg : Blk w g t cur) (ys : List Nat) (B : Nat) (hr : Bts w B (.slice sp sLen sCap) ys)
    (hn : dLen ≤ ys.length) (hfit : off + dLen ≤ cur.size)
    (h : ∀ w', Hid (Blk w' g t (splice cur.toList off ((ys.take dLen).map bv)).toArray) → Hid (Only g w w') → K (a.put o.dst (goInt (dLen : Nat))) w') : if Region.wanted o (yielded ops a.tmps) = true then Oper.wp P o a w K Q else E := by
  have hw : Region.wanted o (yielded ops a.tmps) = true := by simp [Region.wanted, hgd]
  rw [if_pos hw]
  obtain ⟨w', hrun, h1, h2⟩ := run_copy_cut dT sT o.type elem hu hsz sp dLen dCap sLen sCap g off cur t hg ys B hr hn hfit
  have h3 := h w' h1 h2
  unfold Oper.wp
  simp [execOp, ho, resolve, invoke, builtin, hd, hs, hrun, Result.andThen]
  exact h3
end Go.Proofs.Ytckabekimdcdcaa
