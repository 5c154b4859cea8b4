/-
  'copy' of any bytes into a new sector of zeros. Nothing of the program is named here but the bytes' numbering.
  Conditions: none beside those that each line bears.
-/
import Derived.Test.YtckabekimdcdcaaGen
import Derived.Test.YtckabekimdcdcaaCutCopy
import Derived.Test.YtckabekimdcdcaaSlo
namespace Go.Proofs.Ytckabekimdcdcaa
open Go.RowKit
set_option linter.unusedVariables false

/-- The first 64 of some bytes, with zeros behind them. -/
def pad64 (ys : List Nat) : List Nat := ys.take 64 ++ List.replicate (64 - (ys.take 64).length) 0
theorem pad64_chk (b : List Nat) (j : Nat) : pad64 (b.drop (64 * j)) = chk b j := rfl
theorem splice_pad (ys : List Nat) (h : ys.length ≤ 64) : (splice (zs 64).toList 0 (ys.map bv)).toArray = ((ys ++ List.replicate (64 - ys.length) 0).map bv).toArray := by
  have h2 := splice_next [] ys 0 64 rfl h
  rw [← zs_cells, List.nil_append] at h2
  exact h2
theorem wpList_copy_pad {P : Program} {w : World} {ops : Array Oper} {rest : List Oper} {o : Oper} {a : Act} {Q : Exit → Act → World → Prop} (hgd : o.guard = none) (d s : Operand) (dT sT : TypeId)
    (ho : o.op = .call { callee := .builtin .copy, args := #[d, s], argTypes := #[dT, sT] }) (elem : TypeId) (hu : P.underlying dT = some (.slice elem)) (hsz : (P.info? elem).map (·.size) = some 1)
    (sp : Option Addr) (g dCap sLen sCap : Nat) (hd : a.eval d = .slice (some ⟨g, 0, none⟩) 64 dCap) (hs : a.eval s = .slice sp sLen sCap)
    (t : TypeId) (hg : Blk w g t (zs 64)) (ys : List Nat) (B : Nat) (hr : Bts w B (.slice sp sLen sCap) ys)
    (h : ∀ n w', Hid (Blk w' g t ((pad64 ys).map bv).toArray) → Hid (Only g w w') → wpList P ops Q rest (a.put o.dst (goInt n)) w') : wpList P ops Q (o :: rest) a w := by
  refine wpList_plain hgd fun K hK => ?_
  by_cases c : ys.length ≤ 64
  · obtain ⟨w', hrun, h1, h2⟩ := run_copy_bts dT sT o.type elem hu hsz (some ⟨g, 0, none⟩) sp 64 dCap sLen sCap g 0 (zs 64) t hg ys B hr c (fun _ => rfl) (by rw [zs_size]; omega)
    have h3 : Blk w' g t ((pad64 ys).map bv).toArray := by
      unfold pad64
      rw [List.take_of_length_le c, ← splice_pad ys c]
      exact h1
    unfold Oper.wp
    simp [execOp, ho, resolve, invoke, builtin, hd, hs, hrun, Result.andThen]
    exact hK _ _ (by simpa using h (ys.map bv).length w' h3 h2)
  · obtain ⟨w', hrun, h1, h2⟩ := run_copy_cut dT sT o.type elem hu hsz sp 64 dCap sLen sCap g 0 (zs 64) t hg ys B hr (by omega) (by rw [zs_size]; omega)
    have h3 : Blk w' g t ((pad64 ys).map bv).toArray := by
      unfold pad64
      rw [← splice_pad (ys.take 64) (by simp; omega)]
      exact h1
    unfold Oper.wp
    simp [execOp, ho, resolve, invoke, builtin, hd, hs, hrun, Result.andThen]
    exact hK _ _ (by simpa using h 64 w' h3 h2)
theorem Bts.drop {w : World} {B b off n c : Nat} {s : List Nat} (h : Bts w B (.slice (some ⟨b, off, none⟩) n c) s) {a : Nat} (ha : a ≤ n) (hc : n ≤ c) : Bts w B (.slice (some ⟨b, off + a, none⟩) (n - a) (c - a)) (s.drop a) := by
  have hm : c ≤ maxLen := by
    obtain ⟨A', n', c1, hv, _, _, _, hc, _⟩ := h
    injection hv with e1 e2 e3
    subst e3
    exact hc
  have hl := bts_len h
  have h2 := h.cut (a := a) (k := n - a) (c' := c - a) (by omega) (by omega) (by omega)
  have e : win s a (n - a) = s.drop a := by
    unfold win
    rw [List.take_of_length_le (by rw [List.length_drop]; omega)]
  rw [e] at h2
  exact h2

/-- Bytes that work on the disk does not turn. -/
def Stay (gD gS gM : Nat) (w : World) (v : Value) (b : List Nat) : Prop := ∀ w', Turns (dk gD gS gM) w w' → ∃ B, Bts w' B v b ∧ B ≤ w.heap.size
theorem Stay.here {gD gS gM : Nat} {w : World} {v : Value} {b : List Nat} (h : Stay gD gS gM w v b) : ∃ B, Bts w B v b ∧ B ≤ w.heap.size := h w (Turns.refl _ _)
theorem Stay.turns {gD gS gM : Nat} {w w' : World} {v : Value} {b : List Nat} (h : Stay gD gS gM w v b) (ht : Turns (dk gD gS gM) w w') : Stay gD gS gM w' v b := by
  intro w2 h2
  obtain ⟨B, h3, h4⟩ := h w2 (ht.trans h2)
  exact ⟨B, h3, Nat.le_trans h4 ht.size⟩
theorem Stay.below {gD gS gM B : Nat} {w : World} {v : Value} {b : List Nat} (h : Bts w B v b) (hB : B ≤ w.heap.size) (hk : ∀ q, dk gD gS gM q → B ≤ q) : Stay gD gS gM w v b :=
  fun w' ht => ⟨B, h.below (ht.below hk hB), hB⟩
theorem Stay.of_ne {gD gS gM B q off n c : Nat} {w : World} {b : List Nat} (h : Bts w B (.slice (some ⟨q, off, none⟩) n c) b) (hB : B ≤ w.heap.size) (hk : ¬ dk gD gS gM q) : Stay gD gS gM w (.slice (some ⟨q, off, none⟩) n c) b := by
  intro w' ht
  refine ⟨B, ?_, hB⟩
  obtain ⟨A', n', c1, hv, h1, h2, h3, h4, h5, h6⟩ := h
  refine ⟨A', n', c1, hv, h1, h2, h3, h4, h5, fun h0 => ?_⟩
  obtain ⟨b', off', e, h7, h8⟩ := h6 h0
  refine ⟨b', off', e, h7, fun j hj => ?_⟩
  injection hv with e1 e2 e3
  rw [← e1] at e
  injection e with e
  injection e with e4 e5 _
  subst e4 e5
  rw [← h8 j hj]
  exact World.cell?_of_block (ht.block q (by omega) hk)
theorem Stay.nil_ (gD gS gM : Nat) (w : World) : Stay gD gS gM w (.slice none 0 0) [] := fun w' _ => ⟨0, Bts.nil_ _ _, Nat.zero_le _⟩
end Go.Proofs.Ytckabekimdcdcaa
