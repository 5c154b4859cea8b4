/-
  The contract of disk's kept: of the loose sectors those whose bit is set.
  Conditions: the disk is known whole.
-/
import Derived.Test.YtckabekimdcdcaaDiskF
import Derived.Test.YtckabekimdcdcaaShift
namespace Go.Proofs.Ytckabekimdcdcaa
open Go.RowKit
set_option linter.unusedVariables false

/-- Of the first m numbers those whose bit is set. -/
def keptN (ks : List Nat) (K : Nat) : Nat → List Nat
  | 0 => []
  | m + 1 => if K.testBit m = true then keptN ks K m ++ [ks.getD m 0] else keptN ks K m
def keptL (ks : List Nat) (K : Nat) : List Nat := keptN ks K ks.length
theorem keptN_length (ks : List Nat) (K m : Nat) : (keptN ks K m).length ≤ m := by
  induction m with
  | zero => exact Nat.le_refl _
  | succ m ih =>
    unfold keptN
    split
    · rw [List.length_append, List.length_singleton]; omega
    · omega
theorem keptN_mem (ks : List Nat) (K m : Nat) (hm : m ≤ ks.length) : ∀ j ∈ keptN ks K m, j ∈ ks := by
  induction m with
  | zero => intro j hj; cases hj
  | succ m ih =>
    intro j hj
    unfold keptN at hj
    split at hj
    · rcases List.mem_append.1 hj with h | h
      · exact ih (by omega) j h
      · rw [List.mem_singleton.1 h]
        have hm' : m < ks.length := by omega
        simp [hm']
    · exact ih (by omega) j hj
theorem keysL_mem {n : Nat} {L : Nat → Option (List Nat)} {j : Nat} (h : j ∈ keysL n L) : j < n ∧ (L j).isSome = true := by
  have h1 := List.mem_filter.1 h
  exact ⟨List.mem_range.1 h1.1, h1.2⟩
theorem keysL_length (n : Nat) (L : Nat → Option (List Nat)) : (keysL n L).length ≤ n := by
  have := List.length_filter_le (fun j => (L j).isSome) (List.range n)
  simpa [keysL] using this

/-- What is owned from one block on is owned from an earlier one on. -/
theorem row_more {w : World} {base base' : Nat} {e : TypeId} {size n : Nat} {v : Value} {xs : List Value} (h : w.ownsRow base e size v n xs) (hb : base' ≤ base) : w.ownsRow base' e size v n xs := by
  refine ⟨h.1, ?_⟩
  rcases h.2 with ⟨h1, h2⟩ | ⟨g, cap, cur, h1, h2, h3⟩
  · exact .inl ⟨h1, h2⟩
  · exact .inr ⟨g, cap, cur, h1, Nat.le_trans hb h2, h3⟩

/-- What holds while they are picked out. -/
def KeptAt (w1 : World) (ks : List Nat) (K k : Nat) (v : Value) (wr : World) : Prop :=
  wr.ownsRow w1.heap.size 3 1 v (keptN ks K k).length ((keptN ks K k).map nv) ∧ Below w1.heap.size w1 wr

set_option maxRecDepth 20000 in
set_option maxHeartbeats 1000000 in
theorem dkept_any (gD gS gM n : Nat) (S : Nat → List Nat) (L : Nat → Option (List Nat)) (t : Tr) (K : Nat) (w : World) (h : Dsk w gD gS gM n S L t) (hK : K < 18446744073709551616) :
    Calls Try.prog 27 #[.pointer (some ⟨gD, 0, none⟩), .int .u64 K] w (NumsPost w (keptL (keysL n L) K) true) := by
  have HL := Lib.hid (dloose_any _ _ _ _ _ _ _ w h)
  have hfew := h.few
  have hkn := keysL_length n L
  obtain ⟨ks, hks⟩ : ∃ ks, ks = keysL n L := ⟨_, rfl⟩
  rw [← hks] at HL hkn ⊢
  clear h hks
  obtain ⟨i0, hi, hz0, hz1, hz2⟩ := info_parts Try.infoInt
  go_enter Try.func27, Try.ntmps27
  go_wp2_with fail
  refine HL.out.mono ?_
  rintro e w1 ⟨v, rfl, hrow, hbel, hnn⟩
  rcases hrow.2 with ⟨hnil, _⟩ | ⟨g, cap, cur, rfl, hbase, hb, h1, h2, h3, h4⟩
  · exact absurd (hnn hnil) (by decide)
  have HROW := Lib.hid hrow
  have HBEL := Lib.hid hbel
  clear hrow hbel hnn hb h3 h4 h1 h2 cur
  have HG := Lib.hid (show g < w1.heap.size from (HROW.out.lt g rfl).2)
  go_wp2_with fail
  have HST := Lib.hid (show KeptAt w1 ks K 0 (.slice none 0 0) w1 from ⟨World.ownsRow_nil _ _ _ _, Below.refl _ _⟩)
  have HLEN := Lib.hid (show ks.length ≤ 4096 from by omega)
  clear hkn hfew
  go_loopw [5, 11] (fun v i wr => ∃ k : Nat, k ≤ ks.length ∧ i = .int .i64 k ∧ KeptAt w1 ks K k v wr) (fun _ i _ => ks.length - (intOf i).toNat)
  case atStart => exact ⟨0, Nat.zero_le _, rfl, HST.out⟩
  case round =>
    obtain ⟨k, hk, rfl, hrow2, hb2⟩ := hrel
    have HROW2 := Lib.hid hrow2
    have HB2 := Lib.hid hb2
    clear hrow2 hb2
    have hlen := HLEN.out
    by_cases hlt : k < ks.length
    · obtain ⟨x, hx⟩ : ∃ x, x = ks.getD k 0 := ⟨_, rfl⟩
      have hcell : wr.cell? ⟨g, k, none⟩ = some (.int .i64 (x : Int)) := by
        rw [hx, HB2.out.cell HG.out, HROW.out.cellAt k (by omega)]
        simp [hlt]
      have HX := Lib.hid hx
      clear hx
      have t1 : (k : Int) < (ks.length : Int) := by omega
      have t2 : (0 : Int) ≤ (k : Int) := by omega
      have t3 : decide ((k : Int) < (ks.length : Int)) = true := decide_eq_true t1
      have w3 : IntKind.i64.wrap ((k : Int) + 1) = ((k + 1 : Nat) : Int) := by rw [IntKind.wrap_i64]; omega
      have HONE := Lib.hid (show ∀ u ∈ [nv x], u.oneCell' = true from fun u hu => by rw [List.mem_singleton.1 hu]; rfl)
      have hkl := keptN_length ks K k
      have HQ1 := Lib.hid (show (keptN ks K k).length + 1 ≤ maxLen from by unfold maxLen; omega)
      have HQ2 := Lib.hid (show ((keptN ks K k).length + 1) * 8 ≤ 140737488355328 from by omega)
      have HQ3 := Lib.hid (show w1.heap.size ≤ (wr.alloc (.cells #[nv x] 3)).heap.size from by have := HB2.out.size; simp; omega)
      clear hkl
      cases hbit : K.testBit k with
      | true =>
        go_wp2_with (first
          | (refine wpList_shr_nat rfl (.tmp 16) (.tmp 17) _ _ rfl K k rfl rfl ?_)
          | (refine wpList_and_one rfl (.tmp 18) (.const (.int .u64 1)) _ _ rfl K k true hK hbit rfl rfl ?_)
          | (refine wpList_append_own _ rfl (.tmp 21) (.tmp 23) 71 rfl w1.heap.size 3 i0 (.int .i64 0) 1 8 Try.underlying71 hi hz0 hz1 hz2 rfl (by decide) _ _ _ rfl (HROW2.out.alloc _) ⟨wr.heap.size, 0, none⟩ 1 1 [nv x] rfl rfl (cell_one_new _ _ _) HONE.out HQ1.out HQ2.out HQ3.out ?_; intro v' w4 hown4 hg4 hnil4; have HOWN4 := Lib.hid hown4; have HG4 := Lib.hid hg4; clear hown4 hg4 hnil4))
        have HB4 := Lib.hid ((HB2.out.alloc HB2.out.size (.cells #[nv x] 3)).grown HG4.out HQ3.out (fun j hj => (HROW2.out.lt j hj).1))
        go_roundw
        case rel =>
          refine ⟨k + 1, by omega, rfl, ?_, HB4.out⟩
          have h9 := HOWN4.out
          unfold keptN
          rw [if_pos hbit, List.length_append, List.map_append, ← HX.out]
          exact h9
        case measure => simp [intOf]; omega
      | false =>
        go_wp2_with (first
          | (refine wpList_shr_nat rfl (.tmp 16) (.tmp 17) _ _ rfl K k rfl rfl ?_)
          | (refine wpList_and_one rfl (.tmp 18) (.const (.int .u64 1)) _ _ rfl K k false hK hbit rfl rfl ?_))
        go_roundw
        case rel =>
          refine ⟨k + 1, by omega, rfl, ?_, HB2.out⟩
          unfold keptN
          rw [if_neg (by rw [hbit]; decide)]
          exact HROW2.out
        case measure => simp [intOf]; omega
    · obtain rfl : k = ks.length := by omega
      have t3 : decide (((ks.length : Nat) : Int) < (ks.length : Int)) = false := decide_eq_false (by omega)
      clear hlt hk
      go_wp2
      go_ret
      exact ⟨_, rfl, row_more HROW2.out HBEL.out.size, HBEL.out.trans (HB2.out.mono HBEL.out.size), fun _ => rfl⟩
end Go.Proofs.Ytckabekimdcdcaa
